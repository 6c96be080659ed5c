/- The bits that no right has. -/
import Derived.Test.YtcnebdjhhfnmoaaGreatDoorL19
import Derived.Test.YtcnebdjhhfnmoaaGreatDoorL02
import Derived.Test.YtcnebdjhhfnmoaaGreatDoorL03
import Derived.Deep.RegionHeld3
import Derived.Deep.RegionWith
import Derived.Deep.QuietTactic
import Derived.BigQuiet
import Derived.Maps.OwnOps
import Derived.Maps.Views
import Derived.Test.YtcnebdjhhfnmoaaGreatDoorL20
import Derived.Deep.CutBlock
import Derived.Deep.CutRange
import Derived.Test.YtcnebdjhhfnmoaaGreatDoorL01
set_option maxHeartbeats 32000000
set_option maxRecDepth 100000
namespace Go.Proofs.YtcnebdjhhfnmoaaGreatDoor
theorem mask_split:∀i,i<16→Nat.testBit 51199 i = !Nat.testBit 14336 i:=by decide
end Go.Proofs.YtcnebdjhhfnmoaaGreatDoor
namespace Go.Proofs.YtcnebdjhhfnmoaaGreatDoor
open Go.RowKit Go.Maps
def refCells (r:Row):List Value:=[.int .i64 r.1,.string ⟨r.2.1.toArray⟩,.int .i64 r.2.2]
def refTable:Array Value:=(rows.flatMap refCells).toArray
def RefSrc (w:World)(t:Nat):Prop:=w.heap[t]?=some (.cells refTable 123 (0,0))
theorem ref_calls (w:World):Calls Tryz.prog 28 #[] w fun e w'=>
  e=.returned (.slice (some ⟨w.heap.size,0,none⟩) 30 30)∧w'=w.alloc (.cells refTable 123):=by
 go_enter Tryz.func28,Tryz.ntmps28
 go_wp2
 go_ret
 exact ⟨by kernel_rfl,by kernel_rfl⟩
theorem ref_at (k j:Nat)(hk:k<30)(hj:j<3):refTable[k*3+j]?=(refCells (rowAt k))[j]?:=by
 have hl:k<rows.length:=by rw [rows_len];exact hk
 have h:=flat_at refCells (fun _=>rfl) rows k j hj
 unfold refTable
 rw [List.getElem?_toArray,h,List.getElem?_eq_getElem hl,rowAt,List.getD_eq_getElem?_getD,List.getElem?_eq_getElem hl]
 rfl
theorem RefSrc.cell {w:World}{t:Nat}(h:RefSrc w t)(k:Nat)(hk:k<30) :
  w.cell? ⟨t,k*3,none⟩=some (.int .i64 (rowAt k).1)∧w.cell? ⟨t,k*3+1,none⟩=some (.string ⟨(rowAt k).2.1.toArray⟩)∧w.cell? ⟨t,k*3+2,none⟩=some (.int .i64 (rowAt k).2.2):=by
 simp only [RefSrc] at h
 have h0:refTable[k*3]?=_:=ref_at k 0 hk (by omega)
 have h1:=ref_at k 1 hk (by omega)
 have h2:=ref_at k 2 hk (by omega)
 simp only [World.cell?,h]
 exact ⟨h0,h1,h2⟩
end Go.Proofs.YtcnebdjhhfnmoaaGreatDoor
namespace Go.Proofs.YtcnebdjhhfnmoaaGreatDoor
open Go.RowKit
theorem fail_any (n:Nat)(w:World)(h:n<256):Calls Tryz.prog 64 #[.int .i64 (1+(n:Int))] w (Same9 (.int .u32 ((327680+(1+n):Nat):Int)) w):=by
 obtain ⟨m,hm⟩:∃m,m=1+n:=⟨_,rfl⟩
 rw [←hm,show (1:Int)+(n:Int)=(m:Int) by omega]
 have h1:m≤4095:=by omega
 have h2:max (m:Int) 0=(m:Int):=by omega
 have h3:min (m:Int) 4095=(m:Int):=by omega
 have h4:IntKind.u32.wrap (m:Int)=(m:Int):=by rw [IntKind.wrap_u32];omega
 have h5:=Rec.orErrno m (by omega)
 clear hm h
 go_enter Tryz.func64,Tryz.ntmps64
 go_wp2_with fail
 go_ret
 exact ⟨rfl,rfl⟩
def actF (k n:Nat):Nat:=if k%4=0 then 2147483648 else if k%4=1 then 327680+(1+n) else if k%4=2 then 2147221504 else 2147418112
def ActPost (F:Nat)(w:World)(e:Ending)(w':World):Prop:=(∃a:Nat,e=.returned (.int .u32 a)∧actB a=true∧a<4294967296∧a=F)∧w=w'
theorem action_any (k n:Nat)(w:World)(hk:k<256)(hn:n<256):Calls Tryz.prog 29 #[.int .u8 k,.int .u8 n] w (ActPost (actF k n) w):=by
 have hr:Int.tmod (k:Int) 4=((k%4:Nat):Int):=by rw [Int.tmod_eq_emod_of_nonneg (by omega)];omega
 obtain ⟨q,hq⟩:∃q,q=327680+(1+n):=⟨_,rfl⟩
 have hf:=qd (fun W=>fail_any n W hn)
 have HA:=qd (show actB (327680+(1+n))=true by unfold actB;apply decide_eq_true;omega)
 rw [←hq] at hf HA
 have hq32:q<4294967296:=by omega
 obtain ⟨r,hre⟩:∃r,r=k%4:=⟨_,rfl⟩
 have hr4:r<4:=by omega
 have HF:=qd (show actF k n=if r=0 then 2147483648 else if r=1 then q else if r=2 then 2147221504 else 2147418112 by unfold actF;rw [←hre,←hq])
 rw [←hre] at hr
 clear hre hq
 rcases (by omega:r=0∨r=1∨r=2∨r=3) with rfl|rfl|rfl|rfl
 ·go_enter Tryz.func29,Tryz.ntmps29
  go_wp2_with fail
  go_ret
  exact ⟨⟨2147483648,rfl,by decide,by decide,by rw [HF.out];rfl⟩,rfl⟩
 ·go_enter Tryz.func29,Tryz.ntmps29
  go_wp2_with fail
  refine (hf.out _).mono ?_
  rintro e w' ⟨rfl,rfl⟩
  clear hf
  go_wp2_with fail
  go_ret
  exact ⟨⟨q,rfl,HA.out,hq32,by rw [HF.out];rfl⟩,rfl⟩
 ·go_enter Tryz.func29,Tryz.ntmps29
  go_wp2_with fail
  go_ret
  exact ⟨⟨2147221504,rfl,by decide,by decide,by rw [HF.out];rfl⟩,rfl⟩
 ·go_enter Tryz.func29,Tryz.ntmps29
  go_wp2_with fail
  go_ret
  exact ⟨⟨2147418112,rfl,by decide,by decide,by rw [HF.out];rfl⟩,rfl⟩
def vals:List Nat:=[0,1,2,3,5,255,4294967295,4294967296,4294967297,8589934597,9223372036854775810,18446744073709551615]
def u64s (l:List Nat):List Value:=l.map fun (x:Nat)=>Value.int .u64 x
theorem u64s_at {l:List Nat}{k x:Nat}(h:l[k]?=some x):(u64s l)[k]?=some (.int .u64 x):=by simp [u64s,h]
theorem vals_at (x:Nat)(h:x<12):∃v,vals[x]?=some v∧v<18446744073709551616∧(x≠0→v≠0):=by
 rcases (by omega:x=0∨x=1∨x=2∨x=3∨x=4∨x=5∨x=6∨x=7∨x=8∨x=9∨x=10∨x=11) with rfl|rfl|rfl|rfl|rfl|rfl|rfl|rfl|rfl|rfl|rfl|rfl<;>exact ⟨_,rfl,by decide,by decide⟩
theorem values_any (w:World):Calls Tryz.prog 65 #[] w fun e w'=>e=.returned (.slice (some ⟨w.heap.size,0,none⟩) 12 12)∧Bk w' w.heap.size 57 (u64s vals)∧Below w.heap.size w w'∧w'.heap.size=w.heap.size+1:=by
 go_enter Tryz.func65,Tryz.ntmps65
 go_wp2_with fail
 go_ret
 exact ⟨rfl,Bk.new w _ _ rfl,oneb w _,by simp⟩
end Go.Proofs.YtcnebdjhhfnmoaaGreatDoor
namespace Go.Proofs.YtcnebdjhhfnmoaaGreatDoor
open Go.RowKit
def ccF (a b m v:Nat):CondM:=if b%7=6 then ⟨(a%6:Nat),7,vals.getD (1+m%11) 0,vals.getD (v%12) 0&&&vals.getD (1+m%11) 0⟩ else ⟨(a%6:Nat),1+b%7,0,vals.getD (v%12) 0⟩
def CcPost (F:CondM)(w:World)(e:Ending)(w':World):Prop:=(∃c:CondM,e=.returned (.agg #[.int .i64 c.arg,.int .u8 c.op,.int .u64 c.mask,.int .u64 c.val])∧condE c=0∧c.ok∧c=F)∧Below w.heap.size w w'
theorem condCond_any (a b m v:Nat)(w:World)(ha:a<256)(hb:b<256)(hm:m<256)(hv:v<256):Calls Tryz.prog 30 #[.agg #[.int .u8 a,.int .u8 b,.int .u8 m,.int .u8 v]] w (CcPost (ccF a b m v) w):=by
 have ra:Int.tmod (a:Int) 6=((a%6:Nat):Int):=by rw [Int.tmod_eq_emod_of_nonneg (by omega)];omega
 have rb:Int.tmod (b:Int) 7=((b%7:Nat):Int):=by rw [Int.tmod_eq_emod_of_nonneg (by omega)];omega
 have rm:Int.tmod (m:Int) 11=((m%11:Nat):Int):=by rw [Int.tmod_eq_emod_of_nonneg (by omega)];omega
 have rv:Int.tmod (v:Int) 12=((v%12:Nat):Int):=by rw [Int.tmod_eq_emod_of_nonneg (by omega)];omega
 obtain ⟨ai,hai⟩:∃x,x=a%6:=⟨_,rfl⟩
 obtain ⟨bi,hbi⟩:∃x,x=b%7:=⟨_,rfl⟩
 obtain ⟨mi,hmi⟩:∃x,x=m%11:=⟨_,rfl⟩
 obtain ⟨vi,hvi⟩:∃x,x=v%12:=⟨_,rfl⟩
 rw [←hai] at ra
 rw [←hbi] at rb
 rw [←hmi] at rm
 rw [←hvi] at rv
 have la:ai<6:=by omega
 have lb:bi<7:=by omega
 have lm:mi<11:=by omega
 have lv:vi<12:=by omega
 have lvi:(vi:Int)<12:=by omega
 obtain ⟨vv,hvv,hvv64,_⟩:=vals_at vi lv
 have wa:IntKind.u8.wrap (ai:Int)=(ai:Int):=by rw [IntKind.wrap_u8];omega
 have wb1:IntKind.u8.wrap (bi:Int)=(bi:Int):=by rw [IntKind.wrap_u8];omega
 have wb2:IntKind.u8.wrap (1+(bi:Int))=1+(bi:Int):=by rw [IntKind.wrap_u8];omega
 have wai:IntKind.i64.wrap (ai:Int)=(ai:Int):=IntWalk.i64_in _ (by omega)
 have wvi:IntKind.i64.wrap (vi:Int)=(vi:Int):=IntWalk.i64_in _ (by omega)
 have wvv:IntKind.i64.wrap (v:Int)=(v:Int):=IntWalk.i64_in _ (by omega)
 have HCF:=qd (show ccF a b m v=if bi=6 then ⟨(ai:Nat),7,vals.getD (1+mi) 0,vv&&&vals.getD (1+mi) 0⟩ else ⟨(ai:Nat),1+bi,0,vv⟩ by
  have e:vals.getD vi 0=vv:=by rw [List.getD_eq_getElem?_getD,hvv];rfl
  unfold ccF
  rw [←hai,←hbi,←hmi,←hvi,e])
 clear hai hbi hmi hvi
 have hb0:=oneb w (.cells #[.int .u8 a,.int .u8 b,.int .u8 m,.int .u8 v] 125)
 have hk0:=Bk.new w 125 #[.int .u8 a,.int .u8 b,.int .u8 m,.int .u8 v] (l:=[.int .u8 a,.int .u8 b,.int .u8 m,.int .u8 v]) rfl
 go_enter Tryz.func30,Tryz.ntmps30
 go_wp2_with fail
 have hs1:(w.alloc (.cells #[.int .u8 a,.int .u8 b,.int .u8 m,.int .u8 v] 125)).heap.size=w.heap.size+1:=by simp
 generalize w.alloc _=w1 at hb0 hk0 hs1 ⊢
 have hb1:=hb0.trans ((oneb w1 (.cells #[.int .i64 0,.int .u8 0,.int .u64 0,.int .u64 0] 89)).mono hb0.size)
 have hk1:=Bk.new w1 89 #[.int .i64 0,.int .u8 0,.int .u64 0,.int .u64 0] (l:=[.int .i64 0,.int .u8 0,.int .u64 0,.int .u64 0]) rfl
 have hk01:=hk0.kept (oneb w1 (.cells #[.int .i64 0,.int .u8 0,.int .u64 0,.int .u64 0] 89))
 have hs2:(w1.alloc (.cells #[.int .i64 0,.int .u8 0,.int .u64 0,.int .u64 0] 89)).heap.size=w.heap.size+1+1:=by simp [hs1]
 rw [hs1] at hk1
 generalize w1.alloc _=w2 at hb1 hk1 hk01 hs2 ⊢
 have hva:=values_any w2
 rw [hs2] at hva
 refine hva.mono ?_
 clear hva
 rintro e w3 ⟨rfl,hkv,hb3,hs3⟩
 have HB3:=qd (hb1.trans (hb3.mono (by omega)))
 have HK0:=qd (hk01.below hb3 (by omega))
 have HK1:=qd (hk1.below hb3 (by omega))
 have HKV:=qd hkv
 have s0:=HK0.out.cell 0 rfl
 have s1:=HK0.out.cell 1 rfl
 have s3:=HK0.out.cell 3 rfl
 have v0:=hkv.cell vi (u64s_at hvv)
 have hvl:w.heap.size+1+1<w3.heap.size:=by omega
 clear hb0 hk0 hb1 hk1 hk01 hb3 hkv hs1 hs2
 go_wp2_with fail
 refine wp_region_held_drew (S:=fun w'=>w'.cell? ⟨w.heap.size,0,none⟩=some (.int .u8 a)∧w'.cell? ⟨w.heap.size,1,none⟩=some (.int .u8 b)∧w'.cell? ⟨w.heap.size,3,none⟩=some (.int .u8 v)∧w'.cell? ⟨w.heap.size+1+1,vi,none⟩=some (.int .u64 vv)∧w.heap.size+1+1<w'.heap.size) (by kernel_rfl) ?_ (fun hHeld0=>?_)
 ·exact ⟨s0,s1,s3,v0,hvl⟩
 refine tkH (i:=0) (s:=hHeld0) (h:=?_)
 try simp only [Act.put,pA,pB,pC]
 refine tkH (i:=1) (s:=hHeld0) (h:=?_)
 try simp only [Act.put,pA,pB,pC]
 refine tkH (i:=2) (s:=hHeld0) (h:=?_)
 try simp only [Act.put,pA,pB,pC]
 refine tkH (i:=3) (s:=hHeld0) (h:=?_)
 try simp only [Act.put,pA,pB,pC]
 refine tkH (i:=4) (s:=hHeld0) (h:=?_)
 try simp only [Act.put,pA,pB,pC]
 refine tkH (i:=5) (s:=hHeld0) (h:=?_)
 try simp only [Act.put,pA,pB,pC]
 refine tkH (i:=6) (s:=hHeld0) (h:=?_)
 try simp only [Act.put,pA,pB,pC]
 refine tkH (i:=7) (s:=hHeld0) (h:=?_)
 try simp only [Act.put,pA,pB,pC]
 refine tkH (i:=8) (s:=hHeld0) (h:=?_)
 try simp only [Act.put,pA,pB,pC]
 refine tkH (i:=9) (s:=hHeld0) (h:=?_)
 try simp only [Act.put,pA,pB,pC]
 refine tkH (i:=10) (s:=hHeld0) (h:=?_)
 try simp only [Act.put,pA,pB,pC]
 refine tkH (i:=11) (s:=hHeld0) (h:=?_)
 try simp only [Act.put,pA,pB,pC]
 refine tkH (i:=12) (s:=hHeld0) (h:=?_)
 try simp only [Act.put,pA,pB,pC]
 refine tkH (i:=13) (s:=hHeld0) (h:=?_)
 try simp only [Act.put,pA,pB,pC]
 refine tkH (i:=14) (s:=hHeld0) (h:=?_)
 try simp only [Act.put,pA,pB,pC]
 refine tkH (i:=15) (s:=hHeld0) (h:=?_)
 try simp only [Act.put,pA,pB,pC]
 refine tkH (i:=16) (s:=hHeld0) (h:=?_)
 try simp only [Act.put,pA,pB,pC]
 refine tkH (i:=17) (s:=hHeld0) (h:=?_)
 try simp only [Act.put,pA,pB,pC]
 refine wpAnyH_ready (rs:=[18]) (by kernel_rfl) (by simp) ?_
 refine AllReadyH.cons (by first|(simp only [List.getElem?_toArray,List.getElem?_cons_succ,List.getElem?_cons_zero]<;>rfl)|rfl) (fun K hK=>?_) AllReadyH.nil
 go_simp
 refine hK.out _ _ ?_ (fun hHeld1=>?_)
 ·(try dsimp only)
  exact ⟨cell_below hHeld0.1 (oneb _ _),cell_below hHeld0.2.1 (oneb _ _),cell_below hHeld0.2.2.1 (oneb _ _),cell_below hHeld0.2.2.2.1 (oneb _ _),by have:=hHeld0.2.2.2.2;simp;omega⟩
 clear hK K hHeld0
 try simp only [Act.put,pA,pB,pC]
 refine wpAnyH_ready (rs:=[19]) (by kernel_rfl) (by simp) ?_
 refine AllReadyH.cons (by first|(simp only [List.getElem?_toArray,List.getElem?_cons_succ,List.getElem?_cons_zero]<;>rfl)|rfl) (fun K hK=>?_) AllReadyH.nil
 go_simp
 refine hK.out _ _ ?_ (fun hHeld2=>?_)
 ·(try dsimp only)
  exact ⟨cell_below s0 (below_drewN (oneb w3 _) 1),cell_below s1 (below_drewN (oneb w3 _) 1),cell_below s3 (below_drewN (oneb w3 _) 1),cell_below v0 (below_drewN (oneb w3 _) 1),by simp;omega⟩
 clear hK K hHeld1
 try simp only [Act.put,pA,pB,pC]
 refine wpAnyH_done (by kernel_rfl) ?_ _
 clear hHeld2
 have hk3:=(Bk.new w3 89 #[.int .i64 ai,.int .u8 (1+(bi:Int)),.int .u64 0,.int .u64 vv] (l:=[.int .i64 ai,.int .u8 (1+(bi:Int)),.int .u64 0,.int .u64 vv]) rfl).drewN 1
 have hb4:=below_drewN (oneb w3 (.cells #[.int .i64 ai,.int .u8 (1+(bi:Int)),.int .u64 0,.int .u64 vv] 89)) 1
 rw [hs3] at hk3
 clear s0 s1 s3 v0
 change Exit.then _ _ _ _ ((w3.alloc (.cells #[.int .i64 ai,.int .u8 (1+(bi:Int)),.int .u64 0,.int .u64 vv] 89)).drewN 1)
 generalize (w3.alloc (.cells #[.int .i64 ai,.int .u8 (1+(bi:Int)),.int .u64 0,.int .u64 vv] 89)).drewN 1=w4 at hk3 hb4 ⊢
 have HB4:=qd (HB3.out.trans (hb4.mono HB3.out.size))
 have HK4:=qd (HK1.out.kept hb4)
 have hl1:=HK4.out.lt
 have hl3:=hk3.lt
 have r0:=HK4.out.cell 0 rfl
 have r1:=HK4.out.cell 1 rfl
 have r2:=HK4.out.cell 2 rfl
 have r3:=HK4.out.cell 3 rfl
 have f0:=HK4.out.fz 0
 have f1:=HK4.out.fz 1
 have f2:=HK4.out.fz 2
 have f3:=HK4.out.fz 3
 have k0:=hk3.cell 0 rfl
 have k1:=hk3.cell 1 rfl
 have k2:=hk3.cell 2 rfl
 have k3:=hk3.cell 3 rfl
 have z2:=hk3.fz 2
 have z3:=hk3.fz 3
 have m2:=(HK0.out.kept hb4).cell 2 rfl
 have hlv:=(HKV.out.kept hb4).lt
 have hl0:=(HK0.out.kept hb4).lt
 have wm:IntKind.i64.wrap (m:Int)=(m:Int):=IntWalk.i64_in _ (by omega)
 have wm1:IntKind.i64.wrap (mi:Int)=(mi:Int):=IntWalk.i64_in _ (by omega)
 have wm2:IntKind.i64.wrap (1+(mi:Int))=1+(mi:Int):=IntWalk.i64_in _ (by omega)
 have Hcast:=qd (show (1:Int)+(bi:Int)=((1+bi:Nat):Int) by omega)
 by_cases h6:bi=6
 ·subst h6
  obtain ⟨mk,hmk,hmk64,hmk0⟩:=vals_at (1+mi) (by omega)
  have vm:=(HKV.out.kept hb4).cell (1+mi) (u64s_at hmk)
  have e1:(1+(mi:Int)).toNat=1+mi:=by omega
  have e2:(0:Int)≤1+(mi:Int):=by omega
  have e3:1+(mi:Int)<12:=by omega
  have hand:=u64_and_nat vv mk hvv64 hmk64
  have hal:vv&&&mk<18446744073709551616:=Nat.lt_of_le_of_lt Nat.and_le_left hvv64
  have HC:=qd (show condE ⟨(ai:Nat),7,mk,vv&&&mk⟩=0 by
   have:mk≠0:=hmk0 (by omega)
   unfold condE
   simp only
   rw [if_neg (by omega),if_neg (by omega),if_neg (by simp),if_neg (by rw [Nat.and_assoc,Nat.and_self];simp [this])])
  have HCG:=qd (show (⟨(ai:Nat),7,mk,vv&&&mk⟩:CondM)=ccF a b m v by
   have e:vals.getD (1+mi) 0=mk:=by rw [List.getD_eq_getElem?_getD,hmk];rfl
   rw [HCF.out,if_pos rfl,e])
  obtain ⟨q,hq⟩:∃q,q=vv&&&mk:=⟨_,rfl⟩
  rw [←hq] at hand hal HC HCG
  clear hq hmk0 hmk
  go_wp2_with fail
  refine bodyPost_ret (v:=.agg #[.int .i64 ai,.int .u8 7,.int .u64 mk,.int .u64 q]) (by simp [results,Tryz.results30,go_sem,r0,r1,r2,r3]) rfl ⟨⟨⟨(ai:Nat),7,mk,q⟩,rfl,HC.out,⟨by show (-9223372036854775808:Int)≤(ai:Int);omega,by show (ai:Int)≤9223372036854775807;omega,by show 7<256;omega,hmk64,hal⟩,HCG.out⟩,?_⟩
  exact (((((HB4.out.setCell (p:=⟨w.heap.size+1+1+1,2,none⟩) (by simp;omega) _).setCell (p:=⟨w.heap.size+1+1+1,3,none⟩) (by simp;omega) _).setCell (p:=⟨w.heap.size+1,0,none⟩) (by simp) _).setCell (p:=⟨w.heap.size+1,1,none⟩) (by simp) _).setCell (p:=⟨w.heap.size+1,2,none⟩) (by simp) _).setCell (p:=⟨w.heap.size+1,3,none⟩) (by simp) _
 ·have HCG:=qd (show (⟨(ai:Nat),1+bi,0,vv⟩:CondM)=ccF a b m v by rw [HCF.out,if_neg h6])
  have g7:((1:Int)+(bi:Int)==7)=false:=by rw [beq_eq_false_iff_ne];omega
  have HC:=qd (show condE ⟨(ai:Nat),1+bi,0,vv⟩=0 by
   unfold condE
   simp only
   rw [if_neg (by omega),if_neg (by omega),if_pos (by omega),if_neg (by simp)])
  go_wp2_with fail
  refine bodyPost_ret (v:=.agg #[.int .i64 ai,.int .u8 (1+(bi:Int)),.int .u64 0,.int .u64 vv]) (by simp [results,Tryz.results30,go_sem,r0,r1,r2,r3]) rfl ⟨⟨⟨(ai:Nat),1+bi,0,vv⟩,by rw [Hcast.out];rfl,HC.out,⟨by show (-9223372036854775808:Int)≤(ai:Int);omega,by show (ai:Int)≤9223372036854775807;omega,by show 1+bi<256;omega,by show 0<18446744073709551616;omega,hvv64⟩,HCG.out⟩,?_⟩
  exact (((HB4.out.setCell (p:=⟨w.heap.size+1,0,none⟩) (by simp) _).setCell (p:=⟨w.heap.size+1,1,none⟩) (by simp) _).setCell (p:=⟨w.heap.size+1,2,none⟩) (by simp) _).setCell (p:=⟨w.heap.size+1,3,none⟩) (by simp) _
end Go.Proofs.YtcnebdjhhfnmoaaGreatDoor
namespace Go.Proofs.YtcnebdjhhfnmoaaGreatDoor
open Go.RowKit
def u16s (l:List Nat):List Value:=l.map fun (x:Nat)=>Value.int .u16 x
theorem u16s_at {l:List Nat}{k x:Nat}(h:l[k]?=some x):(u16s l)[k]?=some (.int .u16 x):=by simp [u16s,h]
def RgPost (hd kind:Nat)(w:World)(e:Ending)(w':World):Prop:=(∃r:Nat,e=.returned (.int .u16 r)∧r<65536∧(r≠0→grantB hd r kind=true))∧Below w.heap.size w w'
theorem sub_and (h k y:Nat):hasS h (y&&&h&&&k)=true∧hasS k (y&&&h&&&k)=true:=by
 unfold hasS
 constructor
 ·apply decide_eq_true
  apply Nat.eq_of_testBit_eq;intro i;simp only [Nat.testBit_and];cases h.testBit i<;>cases y.testBit i<;>cases k.testBit i<;>rfl
 ·apply decide_eq_true
  apply Nat.eq_of_testBit_eq;intro i;simp only [Nat.testBit_and];cases h.testBit i<;>cases y.testBit i<;>cases k.testBit i<;>rfl
theorem grant_and (h k y:Nat):y&&&h&&&k≠0→grantB h (y&&&h&&&k) k=true:=fun hz=>by
 unfold grantB
 rw [decide_eq_true hz,(sub_and h k y).1,(sub_and h k y).2];rfl
theorem grant_and2 (h k:Nat):h&&&k≠0→grantB h (h&&&k) k=true:=fun hz=>by
 have:=grant_and h k h
 rw [Nat.and_self] at this
 exact this hz
theorem rights_any (i kind hd sB pB:Nat)(rl:List Nat)(A:Option Addr)(n c:Nat)(w:World)(hi:i≤9223372036854775807)(hk:kind<65536)(hh:hd<65536)(hl:rl.length=n)(h16:∀x∈rl,x<65536)(hn:n≤maxLen)(hr:Rd w 1 n A (u16s rl))
  (c6:w.cell? ⟨sB,6,none⟩=some (.slice A n c)) (c3:w.cell? ⟨pB,3,none⟩=some (.int .u16 hd)) :
  Calls Tryz.prog 31 #[.int .i64 i,.int .u16 kind,.pointer (some ⟨sB,0,none⟩),.pointer (some ⟨pB,0,none⟩)] w (RgPost hd kind w):=by
 have hn':n≤9223372036854775807:=hn
 by_cases hge:n≤i
 ·have g1:(n:Int)≤(i:Int):=by omega
  have hand:=u16_and_nat hd kind hh hk
  have HG:=qd (grant_and2 hd kind)
  have hlt:hd&&&kind<65536:=Nat.lt_of_le_of_lt Nat.and_le_left hh
  obtain ⟨q,hq⟩:∃q,q=hd&&&kind:=⟨_,rfl⟩
  rw [←hq] at hand HG hlt
  clear hq hge hr
  go_enter Tryz.func31,Tryz.ntmps31
  go_wp2_with fail
  go_ret
  exact ⟨⟨q,rfl,hlt,HG.out⟩,Below.refl _ _⟩
 ·have g1:¬(n:Int)≤(i:Int):=by omega
  obtain ⟨x,hx⟩:∃x,rl[i]?=some x:=⟨_,List.getElem?_eq_getElem (by omega)⟩
  have hx16:=h16 x (List.mem_of_getElem? hx)
  obtain ⟨b,o,rfl,hbl,hc⟩:=hr.pos (by omega)
  have c0:=hc i _ (u16s_at hx)
  have hand:=u16_and_nat x hd hx16 hh
  have hlt1:x&&&hd<65536:=Nat.lt_of_le_of_lt Nat.and_le_left hx16
  have hand2:=u16_and_nat (x&&&hd) kind hlt1 hk
  have HG:=qd (grant_and hd kind x)
  have hlt:x&&&hd&&&kind<65536:=Nat.lt_of_le_of_lt Nat.and_le_left hlt1
  obtain ⟨y,hy⟩:∃y,y=x&&&hd:=⟨_,rfl⟩
  rw [←hy] at hand hand2 HG hlt
  obtain ⟨q,hq⟩:∃q,q=y&&&kind:=⟨_,rfl⟩
  rw [←hq] at hand2 HG hlt
  have hin:i<n:=by omega
  have hin2:(i:Int)<(n:Int):=by omega
  clear hq hge hr hc hx hy hlt1
  go_enter Tryz.func31,Tryz.ntmps31
  go_wp2_with fail
  go_quiet (fail)
  go_wp2_with fail
  go_ret
  exact ⟨⟨q,rfl,hlt,HG.out⟩,below_drewN (Below.refl _ _) _⟩
theorem dirs_any (w:World):Calls Tryz.prog 32 #[] w fun e w'=>e=.returned (.slice (some ⟨w.heap.size,0,none⟩) 6 6)∧Bk w' w.heap.size 9 (strs [[47],[47,97],[47,97,47,98],[47,102],[47,97,47,103],[47,99]])∧Below w.heap.size w w':=by
 go_enter Tryz.func32,Tryz.ntmps32
 go_wp2_with fail
 go_ret
 exact ⟨rfl,Bk.new w _ _ rfl,oneb w _⟩
end Go.Proofs.YtcnebdjhhfnmoaaGreatDoor
namespace Go.Proofs.YtcnebdjhhfnmoaaGreatDoor
open Go.RowKit Go.Maps Go.WideMaps Go.WideElems Go.ChangeMaps
def boolR (v:Value):Option (DataW Unit×List MemPlace):=match v with|.bool b=>some (.lit (.bool b),[])|_=>none
theorem boolR_inv {v:Value}{b:Bool}{ps:List MemPlace}(h:boolR v=some (.lit (.bool b),ps)):v=.bool b:=by
 unfold boolR at h
 split at h
 ·simp at h;rw [h.1]
 ·cases h
def seenD (keys:List Lit):DataW Unit:=keys.foldl (fun d k=>d.put k (.lit (.bool true))) (.map [])
theorem seenD_snoc (keys:List Lit)(k:Lit):seenD (keys++[k])=(seenD keys).put k (.lit (.bool true)):=by unfold seenD;rw [List.foldl_append];rfl
theorem seenD_map:∀(keys:List Lit)(D:DataW Unit),IsMap D→IsMap (keys.foldl (fun d k=>d.put k (.lit (.bool true))) D)
 | [],_,h=>h
 | _::r,_,h=>seenD_map r _ (h.put _ _)
open Classical in
theorem seen_at (keys:List Lit)(hk:∀k∈keys,WideAt.IsKeyLit k)(k:Lit):(seenD keys).atKey k (.lit (.bool false))=.lit (.bool (decide (k∈keys))):=by
 suffices ∀l:List Lit,(∀k∈l,WideAt.IsKeyLit k)→(seenD l.reverse).atKey k (.lit (.bool false))=.lit (.bool (decide (k∈l.reverse))) by
  have:=this keys.reverse (fun k hk'=>hk k (by simpa using hk'))
  rwa [List.reverse_reverse] at this
 intro l
 induction l with
 | nil=>intro _;rfl
 | cons a l ih=>
  intro h
  rw [List.reverse_cons,seenD_snoc]
  by_cases e:k=a
  ·subst e
   have hm:IsMap (seenD l.reverse):=seenD_map _ _ ⟨[],rfl⟩
   rw [atKey_put_same hm (h k (by simp))]
   simp
  ·rw [atKey_put_other e,ih (fun x hx=>h x (by simp [hx]))]
   congr 2
   simp [e]
theorem strK:Keyed Tryz.prog 9:=string_keyed Tryz.underlying9
theorem u16K:Keyed Tryz.prog 25:=int_keyed Tryz.underlying25
def SeenS (w:World)(mB n:Nat)(l:List Bs):Prop:=w.ownsMap Tryz.prog 9 boolR mB n (seenD (l.map fun s=>Lit.string s))
def SeenN (w:World)(mB n:Nat)(l:List Nat):Prop:=w.ownsMap Tryz.prog 25 boolR mB n (seenD (l.map fun (s:Nat)=>Lit.int .u16 s))
theorem SeenS.blk {w:World}{mB n:Nat}{l:List Bs}(h:SeenS w mB n l):∃es c,w.heap[mB]?=some (.map es c):=by obtain ⟨es,c,hb,_⟩:=h;exact ⟨es,c,hb⟩
theorem SeenN.blk {w:World}{mB n:Nat}{l:List Nat}(h:SeenN w mB n l):∃es c,w.heap[mB]?=some (.map es c):=by obtain ⟨es,c,hb,_⟩:=h;exact ⟨es,c,hb⟩
theorem SeenS.below {w w':World}{mB n:Nat}{l:List Bs}(h:SeenS w mB n l)(hb:Below w.heap.size w w'):SeenS w' mB n l:=by
 obtain ⟨es,c,h1,h2⟩:=h
 exact ⟨es,c,(hb.block _ (Array.getElem?_eq_some_iff.1 h1).1).trans h1,h2⟩
theorem SeenN.below {w w':World}{mB n:Nat}{l:List Nat}(h:SeenN w mB n l)(hb:Below w.heap.size w w'):SeenN w' mB n l:=by
 obtain ⟨es,c,h1,h2⟩:=h
 exact ⟨es,c,(hb.block _ (Array.getElem?_eq_some_iff.1 h1).1).trans h1,h2⟩
theorem SeenS.grown {w w':World}{mB n g:Nat}{l:List Bs}(h:SeenS w mB n l)(hg:w.grownBy w' (some g))(hne:mB≠g):SeenS w' mB n l:=by
 obtain ⟨es,c,h1,h2⟩:=h
 exact ⟨es,c,(hg.block _ (Array.getElem?_eq_some_iff.1 h1).1 (fun e=>hne (Option.some.inj e))).trans h1,h2⟩
theorem SeenN.grown {w w':World}{mB n g:Nat}{l:List Nat}(h:SeenN w mB n l)(hg:w.grownBy w' (some g))(hne:mB≠g):SeenN w' mB n l:=by
 obtain ⟨es,c,h1,h2⟩:=h
 exact ⟨es,c,(hg.block _ (Array.getElem?_eq_some_iff.1 h1).1 (fun e=>hne (Option.some.inj e))).trans h1,h2⟩
theorem TyB.nemap {w:World}{b mB:Nat}{T:TypeId}(h:TyB w b T)(hm:∃es c,w.heap[mB]?=some (.map es c)):b≠mB:=by
 rintro rfl
 obtain ⟨_,_,h⟩:=h
 obtain ⟨_,_,hm⟩:=hm
 rw [h] at hm;cases hm
theorem SeenS.appended {w w':World}{mB n:Nat}{l:List Bs}{v:Value}{U:TypeId}(h:SeenS w mB n l)(hg:w.grownBy w' v.ownBlock)(hv:∀b,v.ownBlock=some b→TyB w b U):SeenS w' mB n l:=by
 cases hb:v.ownBlock with
 | none=>rw [hb] at hg;exact h.below ⟨hg.os,hg.tape,hg.output,hg.size,fun i hi=>hg.block i hi (by simp)⟩
 | some g=>rw [hb] at hg;exact h.grown hg (fun e=>(hv g hb).nemap h.blk e.symm)
theorem SeenN.appended {w w':World}{mB n:Nat}{l:List Nat}{v:Value}{U:TypeId}(h:SeenN w mB n l)(hg:w.grownBy w' v.ownBlock)(hv:∀b,v.ownBlock=some b→TyB w b U):SeenN w' mB n l:=by
 cases hb:v.ownBlock with
 | none=>rw [hb] at hg;exact h.below ⟨hg.os,hg.tape,hg.output,hg.size,fun i hi=>hg.block i hi (by simp)⟩
 | some g=>rw [hb] at hg;exact h.grown hg (fun e=>(hv g hb).nemap h.blk e.symm)
theorem zeroB (w:World):(zeroValue 4).run Tryz.prog w=.ok (.bool false) w:=by kernel_rfl
theorem SeenS.look {w:World}{mB n:Nat}{l:List Bs}(h:SeenS w mB n l)(s:Bs)(hs:s.length≤maxLen):(Instr.lookup 127 (.map (some mB)) (.string ⟨s.toArray⟩) false).run Tryz.prog w=.ok (.bool (decide (s∈l))) w:=by
 obtain ⟨v,ps,hr,hv⟩:=World.ownsMap.lookup h strK Tryz.underlying127 (zeroB w) (zd:=.lit (.bool false)) (zp:=[]) rfl (keyOf_string_mk Tryz.underlying9 (s:=⟨s.toArray⟩) (by rw [Lib.size_eq];exact hs))
 rw [show (⟨s.toArray⟩:ByteArray).data.toList=s from rfl,seen_at _ (fun k hk=>by obtain ⟨x,_,rfl⟩:=List.mem_map.1 hk;trivial)] at hv
 obtain rfl:=boolR_inv hv
 rw [hr]
 refine congrArg (fun b=>Result.ok (Value.bool b) w) ?_
 exact decide_eq_decide.2 ⟨fun h=>by obtain ⟨x,hx,e⟩:=List.mem_map.1 h;cases e;exact hx,fun h=>List.mem_map.2 ⟨s,h,rfl⟩⟩
theorem SeenN.look {w:World}{mB n:Nat}{l:List Nat}(h:SeenN w mB n l)(s:Nat)(hs:s<65536):(Instr.lookup 130 (.map (some mB)) (.int .u16 s) false).run Tryz.prog w=.ok (.bool (decide (s∈l))) w:=by
 have hwf:(Lit.int .u16 (s:Int)).wf=true:=WalkArith.wf_u16 ⟨by omega,by omega⟩
 obtain ⟨v,ps,hr,hv⟩:=World.ownsMap.lookup h u16K Tryz.underlying130 (zeroB w) (zd:=.lit (.bool false)) (zp:=[]) rfl (keyOf_int_mk Tryz.underlying25 hwf)
 rw [seen_at _ (fun k hk=>by obtain ⟨x,_,rfl⟩:=List.mem_map.1 hk;trivial)] at hv
 obtain rfl:=boolR_inv hv
 rw [hr]
 refine congrArg (fun b=>Result.ok (Value.bool b) w) ?_
 exact decide_eq_decide.2 ⟨fun h=>by
  obtain ⟨x,hx,e⟩:=List.mem_map.1 h
  have:(x:Int)=(s:Int):=by injection e
  have:x=s:=by omega
  subst this
  exact hx,fun h=>List.mem_map.2 ⟨s,h,rfl⟩⟩
theorem RB.mapped {K:Kd}{w wr w':World}{B B1 B2 mB:Nat}{z1:List Value}{v0 v1 v2 v3 v4 v5:Value}{rs:List RuleV}{pt:List (Bs×Nat)}{po:List (Nat×Nat)}(h:RB K w wr B B1 B2 z1 v0 v1 v2 v3 v4 v5 rs pt po)(hg:wr.grownBy w' (some mB))(hm:∃es c,wr.heap[mB]?=some (.map es c))(hB:w.heap.size≤mB):RB K w w' B B1 B2 z1 v0 v1 v2 v3 v4 v5 rs pt po:=by
 have ho:∀{e z n v xs},wr.ownsRow B e z v n xs→w'.ownsRow B e z v n xs:=fun {e z n v xs} hh=>by
  obtain ⟨_,_,_,_,_,ht,_⟩:=own_typed hh
  exact own_keep hh hg (fun b hb=>(ht b hb).nemap hm)
 exact ⟨h.out.grown hg (fun e=>h.out.tyb.nemap hm (Option.some.inj e)),h.res.grown hg (fun e=>h.res.tyb.nemap hm (Option.some.inj e)),ho h.r,fun x hx=>(h.c x hx).grown hg ((h.c x hx).ty.imp id fun ⟨a,e,k⟩ b hb=>by cases e.symm.trans hb;exact k.nemap hm),ho h.p,ho h.q,h.bel.grown hg h.bel.size (fun g hg2=>by cases hg2;exact hB),⟨h.hB.1,Nat.le_trans h.hB.2 hg.size⟩,h.hB2,h.hB1⟩
end Go.Proofs.YtcnebdjhhfnmoaaGreatDoor
namespace Go.Proofs.YtcnebdjhhfnmoaaGreatDoor
open Go.RowKit Go.WideElems Go.Maps Go.WideMaps Go.ChangeMaps
structure SC where
 a:Nat
 b:Nat
 m:Nat
 v:Nat
def SC.cells (c:SC):List Value:=[.int .u8 c.a,.int .u8 c.b,.int .u8 c.m,.int .u8 c.v]
def SC.ok (c:SC):Prop:=c.a<256∧c.b<256∧c.m<256∧c.v<256
structure SRV where
 call:Nat
 act:Nat
 err:Nat
 conds:List SC
 A:Option Addr
 cap:Nat
def SRV.cells (r:SRV):List Value:=[.int .u8 r.call,.int .u8 r.act,.int .u8 r.err,.slice r.A r.conds.length r.cap]
def SRV.ok (r:SRV):Prop:=r.call<256∧r.act<256∧r.err<256∧r.conds.length≤maxLen∧∀c∈r.conds,c.ok
def nm3:List Bs:=[[112],[112,111,108,45,49],[120,95,121]]
theorem nm3_word (i:Nat)(nm:Bs)(h:nm3[i]?=some nm):wordB nm=true∧nm.length≤5:=by
 have hi:i<3:=(List.getElem?_eq_some_iff.1 h).1
 have hw:∀l∈nm3,wordP ⟨l.toArray⟩:=by
  intro l hl
  have:l=[112]∨l=[112,111,108,45,49]∨l=[120,95,121]:=by simpa [nm3] using hl
  rcases this with rfl|rfl|rfl
  ·refine ⟨by decide,by decide,?_⟩
   unfold goodP letterP behindP
   decide
  ·refine ⟨by decide,by decide,?_⟩
   unfold goodP letterP behindP
   decide
  ·refine ⟨by decide,by decide,?_⟩
   unfold goodP letterP behindP
   decide
 refine ⟨wordB_of (by simpa using hw nm (List.mem_of_getElem? h)),?_⟩
 have:∀l∈nm3,l.length≤5:=by decide
 exact this nm (List.mem_of_getElem? h)
def dirs6:List Bs:=[[47],[47,97],[47,97,47,98],[47,102],[47,97,47,103],[47,99]]
theorem dirs6_ok:∀l∈dirs6,l.length≤4:=by decide
theorem nodup_len {α:Type} [DecidableEq α]:∀(l k:List α),l.Nodup→(∀x∈l,x∈k)→l.length≤k.length
 | [],_,_,_=>Nat.zero_le _
 | x::l,k,hn,hs=>by
  have hx:x∈k:=hs x (by simp)
  have h2:=List.nodup_cons.1 hn
  have ih:=nodup_len l (k.erase x) h2.2 (fun y hy=>(List.mem_erase_of_ne (fun (e:y=x)=>by subst e;exact h2.1 hy)).2 (hs y (by simp [hy])))
  rw [List.length_erase_of_mem hx] at ih
  have:0<k.length:=List.length_pos_of_mem hx
  simp;omega
structure PtOk (hd:Nat)(pt:List (Bs×Nat)):Prop where
 each:∀x∈pt,x.1∈dirs6∧grantB hd x.2 2047=true∧x.2<65536
 once:(pt.map Prod.fst).Nodup
theorem PtOk.snoc {hd r:Nat}{pt:List (Bs×Nat)}{pa:Bs}(h:PtOk hd pt)(h1:pa∈dirs6)(h2:grantB hd r 2047=true)(h3:r<65536)(h4:pa∉pt.map Prod.fst):PtOk hd (pt++[(pa,r)]):=
 ⟨fun x hx=>by
  rcases List.mem_append.1 hx with h'|h'
  ·exact h.each x h'
  ·simp only [List.mem_singleton] at h';subst h';exact ⟨h1,h2,h3⟩,by
  rw [List.map_append]
  refine List.nodup_append.2 ⟨h.once,by simp,fun a ha b hb=>?_⟩
  simp at hb;subst hb
  intro e;subst e;exact h4 ha⟩
theorem PtOk.len {hd:Nat}{pt:List (Bs×Nat)}(h:PtOk hd pt):pt.length≤6:=by
 have:=nodup_len (pt.map Prod.fst) dirs6 h.once (fun x hx=>by obtain ⟨y,hy,rfl⟩:=List.mem_map.1 hx;exact (h.each y hy).1)
 simpa [dirs6] using this
theorem num_some:∀k,k<30→(byNum ((rowAt k).1:Nat)).isSome=true:=by decide
theorem ref_cell (k:Nat)(h:k<30):refTable.toList[k*3]?=some (.int .i64 (rowAt k).1):=by have:=ref_at k 0 h (by omega);rw [Nat.add_zero] at this;rw [Array.getElem?_toList,this];rfl
theorem srule_cells {w:World}{b o k:Nat}{l:List SRV}{x:SRV}(hc:∀k x,l[k]?=some x→∀j v,(SRV.cells x)[j]?=some v→w.cell? ⟨b,o+(k*4+j),none⟩=some v)(h:l[k]?=some x) :
  w.cell? ⟨b,o+k*4,none⟩=some (.int .u8 x.call)∧w.cell? ⟨b,o+k*4+1,none⟩=some (.int .u8 x.act)∧w.cell? ⟨b,o+k*4+2,none⟩=some (.int .u8 x.err)∧w.cell? ⟨b,o+k*4+3,none⟩=some (.slice x.A x.conds.length x.cap):=
 ⟨by have:=hc k x h 0 _ rfl;simpa using this,by have:=hc k x h 1 _ rfl;simpa [Nat.add_assoc] using this,by have:=hc k x h 2 _ rfl;simpa [Nat.add_assoc] using this,by have:=hc k x h 3 _ rfl;simpa [Nat.add_assoc] using this⟩
theorem scond_cells {w:World}{b o k:Nat}{l:List SC}{x:SC}(hc:∀k x,l[k]?=some x→∀j v,(SC.cells x)[j]?=some v→w.cell? ⟨b,o+(k*4+j),none⟩=some v)(h:l[k]?=some x) :
  w.cell? ⟨b,o+k*4,none⟩=some (.int .u8 x.a)∧w.cell? ⟨b,o+k*4+1,none⟩=some (.int .u8 x.b)∧w.cell? ⟨b,o+k*4+2,none⟩=some (.int .u8 x.m)∧w.cell? ⟨b,o+k*4+3,none⟩=some (.int .u8 x.v):=
 ⟨by have:=hc k x h 0 _ rfl;simpa using this,by have:=hc k x h 1 _ rfl;simpa [Nat.add_assoc] using this,by have:=hc k x h 2 _ rfl;simpa [Nat.add_assoc] using this,by have:=hc k x h 3 _ rfl;simpa [Nat.add_assoc] using this⟩
theorem sKeep {b ni df er hh:Nat}{W W':World}(h:W.cell? ⟨b,0,none⟩=some (.int .u8 ni)∧W.cell? ⟨b,1,none⟩=some (.int .u8 df)∧W.cell? ⟨b,2,none⟩=some (.int .u8 er)∧W.cell? ⟨b,4,none⟩=some (.int .u16 hh)∧b<W.heap.size)(hb:Below W.heap.size W W') :
  W'.cell? ⟨b,0,none⟩=some (.int .u8 ni)∧W'.cell? ⟨b,1,none⟩=some (.int .u8 df)∧W'.cell? ⟨b,2,none⟩=some (.int .u8 er)∧W'.cell? ⟨b,4,none⟩=some (.int .u16 hh)∧b<W'.heap.size:=
 ⟨cell_below h.1 hb,cell_below h.2.1 hb,cell_below h.2.2.1 hb,cell_below h.2.2.2.1 hb,Nat.lt_of_lt_of_le h.2.2.2.2 hb.size⟩
theorem sKeepG {b ni df er hh g:Nat}{W W':World}(h:W.cell? ⟨b,0,none⟩=some (.int .u8 ni)∧W.cell? ⟨b,1,none⟩=some (.int .u8 df)∧W.cell? ⟨b,2,none⟩=some (.int .u8 er)∧W.cell? ⟨b,4,none⟩=some (.int .u16 hh)∧b<W.heap.size)(hb:W.grownBy W' (some g))(hne:b≠g) :
  W'.cell? ⟨b,0,none⟩=some (.int .u8 ni)∧W'.cell? ⟨b,1,none⟩=some (.int .u8 df)∧W'.cell? ⟨b,2,none⟩=some (.int .u8 er)∧W'.cell? ⟨b,4,none⟩=some (.int .u16 hh)∧b<W'.heap.size:=
 ⟨cell_grown h.1 hb hne,cell_grown h.2.1 hb hne,cell_grown h.2.2.1 hb hne,cell_grown h.2.2.2.1 hb hne,Nat.lt_of_lt_of_le h.2.2.2.2 hb.size⟩
structure PoOk (hd:Nat)(po:List (Nat×Nat)):Prop where
 each:∀x∈po,(80≤x.1∧x.1<84)∧grantB hd x.2 49152=true∧x.2<65536
 once:(po.map Prod.fst).Nodup
theorem PoOk.snoc {hd r sq:Nat}{po:List (Nat×Nat)}(h:PoOk hd po)(h1:80≤sq∧sq<84)(h2:grantB hd r 49152=true)(h3:r<65536)(h4:sq∉po.map Prod.fst):PoOk hd (po++[(sq,r)]):=
 ⟨fun x hx=>by
  rcases List.mem_append.1 hx with h'|h'
  ·exact h.each x h'
  ·simp only [List.mem_singleton] at h';subst h';exact ⟨h1,h2,h3⟩,by
  rw [List.map_append]
  refine List.nodup_append.2 ⟨h.once,by simp,fun a ha b hb=>?_⟩
  simp at hb;subst hb
  intro e;subst e;exact h4 ha⟩
theorem PoOk.len {hd:Nat}{po:List (Nat×Nat)}(h:PoOk hd po):po.length≤4:=by
 have:=nodup_len (po.map Prod.fst) [80,81,82,83] h.once (fun x hx=>by
  obtain ⟨y,hy,rfl⟩:=List.mem_map.1 hx
  have:=(h.each y hy).1
  rcases (by omega:y.1=80∨y.1=81∨y.1=82∨y.1=83) with e|e|e|e<;>rw [e]<;>simp)
 simpa using this
structure Rows4 (w:World)(B:Nat)(rs:List RuleV)(RA:Option Addr)(Rc:Nat)(pt:List (Bs×Nat))(PA:Option Addr)(Pc:Nat)(po:List (Nat×Nat))(QA:Option Addr)(Qc:Nat):Prop where
 r:w.ownsRow B 86 3 (.slice RA rs.length Rc) rs.length (rs.flatMap RuleV.cells)
 c:∀x∈rs,TRd w 89 4 x.m.conds.length x.A (x.m.conds.flatMap CondM.cells)
 p:w.ownsRow B 96 2 (.slice PA pt.length Pc) pt.length (pt.flatMap pathC)
 q:w.ownsRow B 132 2 (.slice QA po.length Qc) po.length (po.flatMap portC)
structure SmOk (nm:Bs)(act:Nat)(rs:List RuleV)(hd:Nat)(pt:List (Bs×Nat))(po:List (Nat×Nat)):Prop where
 name:wordB nm=true
 short:nm.length≤5
 actOk:actB act=true
 act32:act<4294967296
 many:rs.length≤12
 rule:∀r∈rs,ruleE r.m=0∧r.m.conds.length≤4∧r.m.ok
 hd16:hd<65536
 valid:hd&&&14336=0
 path:PtOk hd pt
 port:PoOk hd po
theorem own_base {w:World}{B C:Nat}{e:TypeId}{z n:Nat}{v:Value}{xs:List Value}(h:w.ownsRow B e z v n xs)(hb:C≤B):w.ownsRow C e z v n xs:=
 ⟨h.1,h.2.imp id fun ⟨g,cap,cur,e,h1,h2⟩=>⟨g,cap,cur,e,Nat.le_trans hb h1,h2⟩⟩
theorem own_ty {w:World}{base:Nat}{e:TypeId}{z n:Nat}{v:Value}{xs:List Value}(h:w.ownsRow base e z v n xs):∀g,v.ownBlock=some g→TyB w g e:=by obtain ⟨_,_,_,_,_,ht,_⟩:=own_typed h;exact ht
def SmPost (w:World)(e:Ending)(w':World):Prop:=
 ∃(nm:Bs) (act:Nat) (rs:List RuleV) (RA:Option Addr) (Rc hd:Nat) (pt:List (Bs×Nat)) (PA:Option Addr) (Pc:Nat) (po:List (Nat×Nat)) (QA:Option Addr) (Qc:Nat),
  e=.returned (.agg #[.string ⟨nm.toArray⟩,.int .u32 act,.slice RA rs.length Rc,.int .u16 hd,.slice PA pt.length Pc,.slice QA po.length Qc]) ∧
  Rows4 w' w.heap.size rs RA Rc pt PA Pc po QA Qc∧SmOk nm act rs hd pt po∧Below w.heap.size w w'
def scF (c:SC):CondM:=ccF c.a c.b c.m c.v
def ruF (r:SRV):RuleM:=⟨(rowAt (r.call%30)).1,actF r.act r.err,(r.conds.take 4).map scF⟩
theorem take_snocF {α β:Type}(f:α→β){l:List β}{cs:List α}{j:Nat}{c:α}(h:l=(cs.take (min j 4)).map f)(hc:cs[j]?=some c)(h4:j<4)(_:j<4):l++[f c]=(cs.take (min (j+1) 4)).map f:=by
 obtain ⟨h1,h2⟩:=List.getElem?_eq_some_iff.1 hc
 rw [h,Nat.min_eq_left (by omega),Nat.min_eq_left (by omega),List.take_succ_eq_append_getElem h1,List.map_append,h2];rfl
def SmPostF (F:Nat)(RF:List RuleM)(w:World)(e:Ending)(w':World):Prop:=
 ∃(nm:Bs) (act:Nat) (rs:List RuleV) (RA:Option Addr) (Rc hd:Nat) (pt:List (Bs×Nat)) (PA:Option Addr) (Pc:Nat) (po:List (Nat×Nat)) (QA:Option Addr) (Qc:Nat),
  e=.returned (.agg #[.string ⟨nm.toArray⟩,.int .u32 act,.slice RA rs.length Rc,.int .u16 hd,.slice PA pt.length Pc,.slice QA po.length Qc]) ∧
  Rows4 w' w.heap.size rs RA Rc pt PA Pc po QA Qc∧SmOk nm act rs hd pt po∧act=F∧rs.map RuleV.m=RF∧Below w.heap.size w w'
def R2 (w2:World)(F hd pB:Nat)(wx:World):Prop:=
 ∃(nm:Bs) (act:Nat),wordB nm=true∧nm.length≤5∧actB act=true∧act<4294967296∧Bk wx pB 30 [.string ⟨nm.toArray⟩,.int .u32 act,.slice none 0 0,.int .u16 hd,.slice none 0 0,.slice none 0 0]∧Below w2.heap.size w2 wx∧w2.heap.size≤pB∧act=F
theorem smallPolicyF_any (ni df er hh:Nat)(srs:List SRV)(SA:Option Addr)(sn sc:Nat)(dl:List Nat)(DA:Option Addr)(dn dc:Nat)(gl:List Nat)(GA:Option Addr)(gn gc:Nat)(pl:List Nat)(PA:Option Addr)(pn pc:Nat)(w:World)
  (hni:ni<256) (hdf:df<256) (her:er<256) (hhh:hh<65536) (hsn:srs.length=sn) (hdn:dl.length=dn) (hgn:gl.length=gn) (hpn:pl.length=pn)
  (hls:sn≤maxLen) (hld:dn≤maxLen) (hlg:gn≤maxLen) (hlp:pn≤maxLen) (hsok:∀r∈srs,r.ok) (hdok:∀x∈dl,x<256) (hgok:∀x∈gl,x<65536) (hpok:∀x∈pl,x<256)
  (hrs:Rd w 4 sn SA (srs.flatMap SRV.cells)) (hrc:∀r∈srs,Rd w 4 r.conds.length r.A (r.conds.flatMap SC.cells)) (hrd:Rd w 1 dn DA (u8s dl)) (hrg:Rd w 1 gn GA (u16s gl)) (hrp:Rd w 1 pn PA (u8s pl)) :
  Calls Tryz.prog 10 #[.agg #[.int .u8 ni,.int .u8 df,.int .u8 er,.slice SA sn sc,.int .u16 hh,.slice DA dn dc,.slice GA gn gc,.slice PA pn pc]] w (SmPostF (actF df er) ((srs.take 12).map ruF) w):=by
 have rn:Int.tmod (ni:Int) 3=((ni%3:Nat):Int):=by rw [Int.tmod_eq_emod_of_nonneg (by omega)];omega
 obtain ⟨ri,hri⟩:∃x,x=ni%3:=⟨_,rfl⟩
 rw [←hri] at rn
 have li:ri<3:=by omega
 have lri:(ri:Int)<3:=by omega
 have wri:IntKind.u8.wrap (ri:Int)=(ri:Int):=by rw [IntKind.wrap_u8];omega
 obtain ⟨nm,hnm⟩:∃s,nm3[ri]?=some s:=⟨_,List.getElem?_eq_getElem (by simpa [nm3] using li)⟩
 have hand:=u16_and_nat hh 51199 hhh (by omega)
 have hdl:hh&&&51199<65536:=Nat.lt_of_le_of_lt Nat.and_le_left hhh
 obtain ⟨hd,hhd⟩:∃x,x=hh&&&51199:=⟨_,rfl⟩
 rw [←hhd] at hand hdl
 have hand':bits .and .u16 (hh:Int) 51199=(hd:Int):=hand
 have Hhd:=qd (show hd&&&14336=0 by
  rw [hhd]
  apply Nat.eq_of_testBit_eq
  intro i
  simp only [Nat.testBit_and,Nat.zero_testBit]
  by_cases hi:i<16
  ·rw [mask_split i hi];cases hh.testBit i<;>cases Nat.testBit 14336 i<;>rfl
  ·have:hh.testBit i=false:=Nat.testBit_lt_two_pow (Nat.lt_of_lt_of_le hhh (by have:=Nat.pow_le_pow_right (show 2 > 0 by omega) (show 16≤i by omega);simpa using this))
   rw [this];rfl)
 clear hri hhd hand
 have hb0:=oneb w (.cells #[.int .u8 ni,.int .u8 df,.int .u8 er,.slice SA sn sc,.int .u16 hh,.slice DA dn dc,.slice GA gn gc,.slice PA pn pc] 35)
 have hk0:=Bk.new w 35 #[.int .u8 ni,.int .u8 df,.int .u8 er,.slice SA sn sc,.int .u16 hh,.slice DA dn dc,.slice GA gn gc,.slice PA pn pc] (l:=[.int .u8 ni,.int .u8 df,.int .u8 er,.slice SA sn sc,.int .u16 hh,.slice DA dn dc,.slice GA gn gc,.slice PA pn pc]) rfl
 have Hsok:=qd hsok
 have Hdok:=qd hdok
 have Hgok:=qd hgok
 have Hpok:=qd hpok
 have Hsn:=qd hsn
 have Hdn:=qd hdn
 have Hgn:=qd hgn
 have Hpn:=qd hpn
 have HRS:=qd hrs
 have HRC:=qd hrc
 have HRD:=qd hrd
 have HRG:=qd hrg
 have HRP:=qd hrp
 have Hls:=qd (show sn≤9223372036854775807 from hls)
 have Hld:=qd (show dn≤9223372036854775807 from hld)
 have Hlg:=qd hlg
 have Hlp:=qd (show pn≤9223372036854775807 from hlp)
 clear hsok hdok hgok hpok hsn hdn hgn hpn hrs hrc hrd hrg hrp hls hld hlg hlp
 go_enter Tryz.func10,Tryz.ntmps10
 go_wp2_with fail
 have hs1:(w.alloc (.cells #[.int .u8 ni,.int .u8 df,.int .u8 er,.slice SA sn sc,.int .u16 hh,.slice DA dn dc,.slice GA gn gc,.slice PA pn pc] 35)).heap.size=w.heap.size+1:=by simp
 generalize w.alloc _=w1 at hb0 hk0 hs1 ⊢
 have hb1:=oneb w1 (.cells #[.string ⟨#[]⟩,.int .u32 0,.slice none 0 0,.int .u16 0,.slice none 0 0,.slice none 0 0] 30)
 have hk1:=Bk.new w1 30 #[.string ⟨#[]⟩,.int .u32 0,.slice none 0 0,.int .u16 0,.slice none 0 0,.slice none 0 0] (l:=[.string ⟨#[]⟩,.int .u32 0,.slice none 0 0,.int .u16 0,.slice none 0 0,.slice none 0 0]) rfl
 have hs2:(w1.alloc (.cells #[.string ⟨#[]⟩,.int .u32 0,.slice none 0 0,.int .u16 0,.slice none 0 0,.slice none 0 0] 30)).heap.size=w.heap.size+1+1:=by simp [hs1]
 rw [hs1] at hk1
 generalize w1.alloc _=w2 at hb1 hk1 hs2 ⊢
 have hcl:=ref_calls w2
 rw [hs2] at hcl
 refine hcl.mono ?_
 clear hcl
 rintro e w3 ⟨rfl,hw3⟩
 have hb2:=oneb w2 (.cells refTable 123)
 have hkt:w3.heap[w.heap.size+1+1]?=some (.cells refTable 123 (0,0)):=by rw [hw3,←hs2];exact heap_alloc_new w2 _
 have hs3:w3.heap.size=w.heap.size+1+1+1:=by rw [hw3];simp [hs2]
 rw [←hw3] at hb2
 have HB13:=qd (hb1.trans (hb2.mono hb1.size))
 have HK0:=qd ((hk0.kept hb1).kept hb2)
 have HK1:=qd (hk1.kept hb2)
 have HKT:=qd hkt
 have HB0:=qd hb0
 have HK01:=qd hk0
 clear hb0 hk0 hb1 hk1 hs2 hw3 hb2 hkt
 have s0:=HK0.out.cell 0 rfl
 have s1:=HK0.out.cell 1 rfl
 have s2:=HK0.out.cell 2 rfl
 have s4:=HK0.out.cell 4 rfl
 have hsz:=HK0.out.lt
 go_upto_region 2 with fail
 have hwn:=nm3_word ri nm hnm
 have hszw:w.heap.size<w3.heap.size:=hsz
 go_cut [4] from 22 to 36 (fun pv wx=>∃pB:Nat,pv=.pointer (some ⟨pB,0,none⟩)∧Hid (R2 w3 (actF df er) hd pB wx))
 case first=>
  refine wp_region_held_drew (S:=fun w'=>w'.cell? ⟨w.heap.size,0,none⟩=some (.int .u8 ni)∧w'.cell? ⟨w.heap.size,1,none⟩=some (.int .u8 df)∧w'.cell? ⟨w.heap.size,2,none⟩=some (.int .u8 er)∧w'.cell? ⟨w.heap.size,4,none⟩=some (.int .u16 hh)∧w.heap.size<w'.heap.size) (by kernel_rfl) ?_ (fun hHeld=>?_)
  ·exact ⟨s0,s1,s2,s4,hsz⟩
  have hbv:Below w3.heap.size w3 w3.drew:=below_drewN (Below.refl _ _) 1
  generalize w3.drew=v at hHeld hbv ⊢
  refine tkH (i:=1) (s:=hHeld) (h:=?_)
  try simp only [Act.put,pA,pB,pC]
  refine tkH (i:=2) (s:=hHeld) (h:=?_)
  try simp only [Act.put,pA,pB,pC]
  refine tkH (i:=3) (s:=hHeld) (h:=?_)
  try simp only [Act.put,pA,pB,pC]
  refine tkH (i:=6) (s:=hHeld) (h:=?_)
  try simp only [Act.put,pA,pB,pC]
  refine tkH (i:=7) (s:=hHeld) (h:=?_)
  try simp only [Act.put,pA,pB,pC]
  refine tkH (i:=8) (s:=hHeld) (h:=?_)
  try simp only [Act.put,pA,pB,pC]
  refine tkH (i:=9) (s:=hHeld) (h:=?_)
  try simp only [Act.put,pA,pB,pC]
  refine tkH (i:=11) (s:=hHeld) (h:=?_)
  try simp only [Act.put,pA,pB,pC]
  refine tkH (i:=12) (s:=hHeld) (h:=?_)
  try simp only [Act.put,pA,pB,pC]
  refine tkH (i:=13) (s:=hHeld) (h:=?_)
  try simp only [Act.put,pA,pB,pC]
  repeat' first
   | (refine crH (i:=0) (k:=fun K hK=>?_) (r:=?_)
      go_simp
      have nb:=Bk.new v 9 #[.string ⟨#[112]⟩,.string ⟨#[112,111,108,45,49]⟩,.string ⟨#[120,95,121]⟩] (l:=strs nm3) rfl
      have hbx:=oneb v (.cells #[.string ⟨#[112]⟩,.string ⟨#[112,111,108,45,49]⟩,.string ⟨#[120,95,121]⟩] 9)
      first|(have HPb2:=qd (HPb.out.kept hbx);clear HPb;have HPb:=HPb2;clear HPb2)|skip
      refine hK.out _ _ ?_ ?_
      ·exact sKeep hHeld hbx
      clear hHeld hK K
      intro hHeld
      try simp only [Act.put,pA,pB,pC]
      have hbv2:=hbv.trans (hbx.mono hbv.size)
      clear hbv
      have hbv:=hbv2
      clear hbv2 hbx
      generalize hnB:v.heap.size=nB at *
      clear hnB
      first|generalize World.alloc v _=v at hHeld hbv nb HPb ⊢|generalize World.alloc v _=v at hHeld hbv nb ⊢
      have HNb:=qd nb
      clear nb
      refine tkH (i:=4) (s:=hHeld) (h:=?_)
      try simp only [Act.put,pA,pB,pC])
   | (refine crH (i:=5) (k:=fun K hK=>?_) (r:=?_)
      have n5:=HNb.out.cell ri (strs_at hnm)
      have nlt:=HNb.out.lt
      go_simp
      refine hK.out _ _ hHeld (fun _=>?_)
      clear hK K n5 nlt HNb
      try simp only [Act.put,pA,pB,pC])
   | (refine crH (i:=10) (k:=fun K hK=>?_) (r:=?_)
      go_simp
      refine (action_any df er _ hdf her).mono ?_
      rintro e v' ⟨⟨act,rfl,hact,hact32,hactF⟩,rfl⟩
      have HactF:=qd hactF
      clear hactF
      refine hK.out _ _ hHeld (fun _=>?_)
      clear hK K
      try simp only [Act.put,pA,pB,pC])
   | (refine crH (i:=15) (k:=fun K hK=>?_) (r:=?_)
      go_simp
      have pb:=Bk.new v 30 #[.string ⟨#[]⟩,.int .u32 0,.slice none 0 0,.int .u16 0,.slice none 0 0,.slice none 0 0] (l:=[.string ⟨#[]⟩,.int .u32 0,.slice none 0 0,.int .u16 0,.slice none 0 0,.slice none 0 0]) rfl
      have hbx:=oneb v (.cells #[.string ⟨#[]⟩,.int .u32 0,.slice none 0 0,.int .u16 0,.slice none 0 0,.slice none 0 0] 30)
      have hpB:w3.heap.size≤v.heap.size:=hbv.size
      first|(have HNb2:=qd (HNb.out.kept hbx);clear HNb;have HNb:=HNb2;clear HNb2)|skip
      refine hK.out _ _ ?_ ?_
      ·exact sKeep hHeld hbx
      clear hHeld hK K
      intro hHeld
      try simp only [Act.put,pA,pB,pC]
      have hbv2:=hbv.trans (hbx.mono hbv.size)
      clear hbv
      have hbv:=hbv2
      clear hbv2 hbx
      obtain ⟨pB,hpBe⟩:∃pB,pB=v.heap.size:=⟨_,rfl⟩
      rw [←hpBe] at hpB pb ⊢
      first|generalize World.alloc v _=v at hHeld hbv pb HNb ⊢|generalize World.alloc v _=v at hHeld hbv pb ⊢
      clear hpBe
      have HPb:=qd pb
      clear pb)
   | (refine crH (i:=16) (k:=fun K hK=>?_) (r:=?_)
      have k0:=HPb.out.cell 0 rfl
      have k1:=HPb.out.cell 1 rfl
      have k2:=HPb.out.cell 2 rfl
      have k3:=HPb.out.cell 3 rfl
      have k4:=HPb.out.cell 4 rfl
      have k5:=HPb.out.cell 5 rfl
      have f0:=HPb.out.fz 0
      have f1:=HPb.out.fz 1
      have f2:=HPb.out.fz 2
      have f3:=HPb.out.fz 3
      have f4:=HPb.out.fz 4
      have f5:=HPb.out.fz 5
      have plt:=HPb.out.lt
      go_simp
      have gf:=only_trans (only_trans (only_trans (only_trans (only_trans (only_set v pB 0 (.string ⟨nm.toArray⟩)) (only_set _ pB 1 (.int .u32 act))) (only_set _ pB 2 (.slice none 0 0))) (only_set _ pB 3 (.int .u16 hd))) (only_set _ pB 4 (.slice none 0 0))) (only_set _ pB 5 (.slice none 0 0))
      have pbf:=(((((HPb.out.set 0 (.string ⟨nm.toArray⟩)).set 1 (.int .u32 act)).set 2 (.slice none 0 0)).set 3 (.int .u16 hd)).set 4 (.slice none 0 0)).set 5 (.slice none 0 0)
      have hbf:=only_below hbv gf (by have:=hbv.size;omega) hpB
      refine hK.out _ _ ?_ ?_
      ·exact sKeepG hHeld gf (by omega)
      clear hHeld hK K k0 k1 k2 k3 k4 k5 f0 f1 f2 f3 f4 f5
      intro hHeld
      try simp only [Act.put,pA,pB,pC])
   | (exact AllReadyH.nil)
   | (refine wpAnyH_take (i:=14) (v:=?_) (by first|(simp only [List.getElem?_toArray,List.getElem?_cons_succ,List.getElem?_cons_zero]<;>rfl)|rfl) (by decide +kernel) (by decide +kernel) (by decide +kernel) (by exact fun _ _ _ h=>h) (Or.inl ⟨by rfl,?_⟩) hHeld ?_
      rotate_left 1
      ·(intro w hSw;(try dsimp only at hSw);go_simp<;>with_reducible rfl)
      try simp only [Act.put,pA,pB,pC])
   | (refine wpAnyH_ready (rs:=[0,10,15]) (by decide +kernel) (by simp) ?_)
   | (refine wpAnyH_ready (rs:=[5,10,15]) (by decide +kernel) (by simp) ?_)
   | (refine wpAnyH_ready (rs:=[10,15]) (by decide +kernel) (by simp) ?_)
   | (refine wpAnyH_ready (rs:=[15]) (by decide +kernel) (by simp) ?_)
   | (refine wpAnyH_ready (rs:=[16]) (by decide +kernel) (by simp) ?_)
   | (refine wpAnyH_ready (rs:=[10]) (by decide +kernel) (by simp) ?_)
   | (refine wpAnyH_ready (rs:=[5,15]) (by decide +kernel) (by simp) ?_)
   | (refine wpAnyH_ready (rs:=[5]) (by decide +kernel) (by simp) ?_)
   | (refine wpAnyH_ready (rs:=[5,10]) (by decide +kernel) (by simp) ?_)
   | (refine wpAnyH_ready (rs:=[0,15]) (by decide +kernel) (by simp) ?_)
   | (refine wpAnyH_ready (rs:=[0]) (by decide +kernel) (by simp) ?_)
   | (refine wpAnyH_ready (rs:=[0,10]) (by decide +kernel) (by simp) ?_)
   | (refine wpAnyH_done (by decide +kernel) ?_ _
      go_wp2_with fail
      go_meet
      case rel=>exact ⟨pB,rfl,qd ⟨nm,act,hwn.1,hwn.2,hact,hact32,pbf,hbf,hpB,HactF.out⟩⟩)
 case rest=>
  obtain ⟨pB,rfl,HR2⟩:=hcut
  obtain ⟨nm',act,hw1,hw2,hact,hact32,hpk,hbc,hpB,hactF⟩:=HR2.out
  have HActF:=qd hactF
  clear HR2 hwn hnm
  obtain ⟨nm,hnme⟩:∃q,q=nm':=⟨_,rfl⟩
  rw [←hnme] at hw1 hw2 hpk
  clear hnme
  have HW1:=qd hw1
  have HAct:=qd hact
  have HBc:=qd hbc
  have hcs:=hbc.size
  have hb1c:=HB13.out.trans (hbc.mono HB13.out.size)
  obtain ⟨Bc,hBc⟩:∃q,q=wc.heap.size:=⟨_,rfl⟩
  have hrb:RB kP w1 wc Bc (w.heap.size+1) pB [.string ⟨#[]⟩,.int .u32 0,.slice none 0 0,.int .u16 0,.slice none 0 0,.slice none 0 0] (.string ⟨nm.toArray⟩) (.int .u32 act) (.slice none 0 0) (.int .u16 hd) (.slice none 0 0) (.slice none 0 0) [] [] []:=
   ⟨hpk,HK1.out.kept hbc,World.ownsRow_nil _ _ _ _,fun x hx=>(by simp at hx),World.ownsRow_nil _ _ _ _,World.ownsRow_nil _ _ _ _,hb1c,⟨by have:=HB13.out.size;omega,by omega⟩,by have:=HB13.out.size;omega,⟨by omega,by omega⟩⟩
  have HRB:=qd hrb
  have htc:Bk wc (w.heap.size+1+1) 123 refTable.toList:=(show Bk w3 (w.heap.size+1+1) 123 refTable.toList from HKT.out).kept hbc
  have HTC:=qd htc
  have HK0x:Hid (Bk w1 w.heap.size 35 [.int .u8 ni,.int .u8 df,.int .u8 er,.slice SA sn sc,.int .u16 hh,.slice DA dn dc,.slice GA gn gc,.slice PA pn pc]):=qd HK01.out
  have s3:=(HK0.out.kept hbc).cell 3 rfl
  have hbcs:w.heap.size<wc.heap.size:=by omega
  clear hactF hw1 hact hbc hb1c hrb htc hpk s0 s1 s2 s4
  go_upto_block 0 with fail
  clear s3
  go_cut [] from 40 to 88 (fun wx=>∃(rs:List RuleV) (v2:Value),rs.length≤12∧Hid ((∀r∈rs,ruleE r.m=0∧r.m.conds.length≤4∧r.m.ok)∧rs.map RuleV.m=(srs.take 12).map ruF)∧Hid (RB kP w1 wx Bc (w.heap.size+1) pB [.string ⟨#[]⟩,.int .u32 0,.slice none 0 0,.int .u16 0,.slice none 0 0,.slice none 0 0] (.string ⟨nm.toArray⟩) (.int .u32 act) v2 (.int .u16 hd) (.slice none 0 0) (.slice none 0 0) rs [] []))
  case first=>
   go_wp2_with fail
   go_loopw [40] (fun iv wr=>∃(k:Nat) (rs:List RuleV) (v2:Value),iv=.int .i64 k∧k≤sn∧k≤12∧rs.length=k∧Hid ((∀r∈rs,ruleE r.m=0∧r.m.conds.length≤4∧r.m.ok)∧rs.map RuleV.m=(srs.take k).map ruF)∧Hid (RB kP w1 wr Bc (w.heap.size+1) pB [.string ⟨#[]⟩,.int .u32 0,.slice none 0 0,.int .u16 0,.slice none 0 0,.slice none 0 0] (.string ⟨nm.toArray⟩) (.int .u32 act) v2 (.int .u16 hd) (.slice none 0 0) (.slice none 0 0) rs [] [])∧Hid (Bk wr (w.heap.size+1+1) 123 refTable.toList)) (fun iv _=>sn-(intOf iv).toNat)
   case atStart=>exact ⟨0,[],_,rfl,Nat.zero_le _,by omega,rfl,qd ⟨by simp,by simp⟩,HRB,HTC⟩
   case round=>
    obtain ⟨k,rs,v2,rfl,hk,hk12,hrl,HRu,HW,HT⟩:=hrel
    have hlw:w.heap.size+1<wr.heap.size:=HW.out.res.lt
    have hpl:=HW.out.out.lt
    have hls:=Hls.out
    by_cases hlt:k<sn
    ·obtain ⟨r,hr⟩:∃r,srs[k]?=some r:=⟨_,List.getElem?_eq_getElem (by have:=Hsn.out;omega)⟩
     have hbw:=HB0.out.trans (HW.out.bel.mono HB0.out.size)
     have hmem:=List.mem_of_getElem? hr
     have hrd:=HRS.out.below hbw
     obtain ⟨bb,o,hAe,hbl,hcell⟩:=hrd.one (fun _=>rfl) (by omega) (by omega)
     subst hAe
     obtain ⟨q0,q1,q2,q3⟩:=srule_cells hcell hr
     obtain ⟨hcall,hact2,herr,hlc,hcok⟩:=Hsok.out r hmem
     have HCok:=qd hcok
     have HRc:=qd ((HRC.out r hmem).below hbw)
     obtain ⟨call,ract,rerr,cs,CA,ccap⟩:=r
     simp only at q0 q1 q2 q3 hcall hact2 herr hlc HCok HRc
     obtain ⟨nc,hnc⟩:∃nc,nc=cs.length:=⟨_,rfl⟩
     rw [←hnc] at q3 HRc hlc
     have HNc:=qd hnc
     have hlc':nc≤9223372036854775807:=hlc
     have HBw:=qd hbw
     have HRk:=qd hr
     clear hcell hr hmem hrd hcok hnc hlc hbw
     by_cases h12:k=12
     ·have g12k:=qd h12
      have g12:(12:Int)≤(k:Int):=by omega
      have d12:decide ((12:Int)≤(k:Int))=true:=decide_eq_true g12
      clear h12
      go_wp2_with fail
      go_meet
      case rel=>exact ⟨rs,v2,by omega,qd ⟨HRu.out.1,by rw [HRu.out.2,g12k.out]⟩,qd (HW.out.kept (oneb wr _))⟩
     have g12:¬(12:Int)≤(k:Int):=by omega
     have d12:decide ((12:Int)≤(k:Int))=false:=decide_eq_false g12
     have hk11:k<12:=by omega
     clear h12
     go_upto_region 7 with fail
     have hci:∃ci,ci=call%30:=⟨_,rfl⟩
     obtain ⟨ci,hci⟩:=hci
     have rc:Int.tmod (call:Int) 30=((ci:Nat):Int):=by rw [hci,Int.tmod_eq_emod_of_nonneg (by omega)];omega
     have ci30:ci<30:=by omega
     have ci30i:(ci:Int)<30:=by omega
     have wci:IntKind.i64.wrap (ci:Int)=(ci:Int):=IntWalk.i64_in _ (by omega)
     have wcl:IntKind.i64.wrap (call:Int)=(call:Int):=IntWalk.i64_in _ (by omega)
     have hnum:=row_small ci
     have HNum:=qd (num_some ci ci30)
     obtain ⟨num,hnume⟩:∃q,q=(rowAt ci).1:=⟨_,rfl⟩
     rw [←hnume] at hnum HNum
     have HNum2:=qd (show num=(rowAt (call%30)).1 by rw [hnume,hci])
     have hn446:=hnum.1
     have wnum:IntKind.u32.wrap (num:Int)=(num:Int):=by rw [IntKind.wrap_u32];omega
     have hk5:=Bk.new wr 121 #[.int .u8 call,.int .u8 ract,.int .u8 rerr,.slice CA nc ccap] (l:=[.int .u8 call,.int .u8 ract,.int .u8 rerr,.slice CA nc ccap]) rfl
     have hb5:=oneb wr (.cells #[.int .u8 call,.int .u8 ract,.int .u8 rerr,.slice CA nc ccap] 121)
     have HT5:=qd (HT.out.kept hb5)
     have tc0:=HT5.out.cell (ci*3) (show refTable.toList[ci*3]?=some (.int .i64 (num:Nat)) by rw [hnume];exact ref_cell ci ci30)
     have tlt:=HT5.out.lt
     have hW5:=HW.out.kept hb5
     have hs5:(wr.alloc (.cells #[.int .u8 call,.int .u8 ract,.int .u8 rerr,.slice CA nc ccap] 121)).heap.size=wr.heap.size+1:=by simp
     clear hci hnum q0 q1 q2 q3
     generalize wr.alloc _=w5 at hk5 hb5 HT5 tc0 tlt hW5 hs5 ⊢
     have HW5:=qd hW5
     have HB5:=qd hb5
     have q0:=hk5.cell 0 rfl
     have q1:=hk5.cell 1 rfl
     have q2:=hk5.cell 2 rfl
     have q3:=hk5.cell 3 rfl
     have hl5:=hk5.lt
     have HK5:=qd hk5
     clear hW5 hb5 hk5 hnume
     go_cut [7] from 47 to 63 (fun xv wx=>∃(xb a:Nat),xv=.pointer (some ⟨xb,0,none⟩)∧a<4294967296∧w5.heap.size≤xb∧Hid (actB a=true∧a=actF ract rerr)∧Hid (Bk wx xb 86 [.int .u32 num,.int .u32 a,.slice none 0 0])∧Hid (Below w5.heap.size w5 wx))
     case first=>
      refine wp_region_held_drew (S:=fun w'=>w'.cell? ⟨wr.heap.size,0,none⟩=some (.int .u8 call)∧w'.cell? ⟨wr.heap.size,1,none⟩=some (.int .u8 ract)∧w'.cell? ⟨wr.heap.size,2,none⟩=some (.int .u8 rerr)∧w'.cell? ⟨w.heap.size+1+1,ci*3,none⟩=some (.int .i64 num)∧wr.heap.size<w'.heap.size∧w.heap.size+1+1<w'.heap.size) (by kernel_rfl) ?_ (fun hHeld0=>?_)
      ·exact ⟨q0,q1,q2,tc0,hl5,tlt⟩
      have hbv0:Below w5.heap.size w5 w5.drew:=below_drewN (Below.refl _ _) 1
      generalize w5.drew=v0 at hHeld0 hbv0 ⊢
      refine tkH (i:=0) (s:=hHeld0) (h:=?_)
      try simp only [Act.put,pA,pB,pC]
      refine tkH (i:=1) (s:=hHeld0) (h:=?_)
      try simp only [Act.put,pA,pB,pC]
      refine tkH (i:=2) (s:=hHeld0) (h:=?_)
      try simp only [Act.put,pA,pB,pC]
      refine tkH (i:=3) (s:=hHeld0) (h:=?_)
      try simp only [Act.put,pA,pB,pC]
      refine tkH (i:=4) (s:=hHeld0) (h:=?_)
      try simp only [Act.put,pA,pB,pC]
      refine tkH (i:=5) (s:=hHeld0) (h:=?_)
      try simp only [Act.put,pA,pB,pC]
      refine tkH (i:=6) (s:=hHeld0) (h:=?_)
      try simp only [Act.put,pA,pB,pC]
      refine tkH (i:=7) (s:=hHeld0) (h:=?_)
      try simp only [Act.put,pA,pB,pC]
      refine tkH (i:=8) (s:=hHeld0) (h:=?_)
      try simp only [Act.put,pA,pB,pC]
      refine tkH (i:=9) (s:=hHeld0) (h:=?_)
      try simp only [Act.put,pA,pB,pC]
      refine tkH (i:=10) (s:=hHeld0) (h:=?_)
      try simp only [Act.put,pA,pB,pC]
      refine tkH (i:=11) (s:=hHeld0) (h:=?_)
      try simp only [Act.put,pA,pB,pC]
      refine tkH (i:=12) (s:=hHeld0) (h:=?_)
      try simp only [Act.put,pA,pB,pC]
      refine tkH (i:=13) (s:=hHeld0) (h:=?_)
      try simp only [Act.put,pA,pB,pC]
      refine tkH (i:=14) (s:=hHeld0) (h:=?_)
      try simp only [Act.put,pA,pB,pC]
      refine wpAnyH_ready (rs:=[15,17]) (by kernel_rfl) (by simp) ?_
      refine crH (k:=fun K hK=>?_) (r:=?_)
      ·go_simp
       refine (action_any ract rerr _ hact2 herr).mono ?_
       rintro e v' ⟨⟨a,rfl,haB,ha32,haF⟩,rfl⟩
       have HaF:=qd haF
       clear haF
       refine hK.out _ _ hHeld0 (fun hHeld1=>?_)
       clear hK K
       try simp only [Act.put,pA,pB,pC]
       refine tkH (i:=16) (s:=hHeld1) (h:=?_)
       try simp only [Act.put,pA,pB,pC]
       refine wpAnyH_ready (rs:=[17]) (by kernel_rfl) (by simp) ?_
       refine crH (k:=fun K hK=>?_) (r:=?_)
       ·go_simp
        have xq:=Bk.new v0 86 #[.int .u32 0,.int .u32 0,.slice none 0 0] (l:=[.int .u32 0,.int .u32 0,.slice none 0 0]) rfl
        have hbx:=oneb v0 (.cells #[.int .u32 0,.int .u32 0,.slice none 0 0] 86)
        have hxb:w5.heap.size≤v0.heap.size:=hbv0.size
        refine hK.out _ _ ?_ (fun hHeld2=>?_)
        ·exact ⟨cell_below hHeld1.1 hbx,cell_below hHeld1.2.1 hbx,cell_below hHeld1.2.2.1 hbx,cell_below hHeld1.2.2.2.1 hbx,Nat.lt_of_lt_of_le hHeld1.2.2.2.2.1 hbx.size,Nat.lt_of_lt_of_le hHeld1.2.2.2.2.2 hbx.size⟩
        clear hK K
        try simp only [Act.put,pA,pB,pC]
        have hbv1:=hbv0.trans (hbx.mono hbv0.size)
        clear hbx hHeld1
        obtain ⟨xb,hxe⟩:∃xb,xb=v0.heap.size:=⟨_,rfl⟩
        rw [←hxe] at hxb xq ⊢
        generalize v0.alloc _=v1 at hHeld2 hbv1 xq ⊢
        clear hxe
        refine wpAnyH_ready (rs:=[18]) (by kernel_rfl) (by simp) ?_
        refine crH (k:=fun K hK=>?_) (r:=?_)
        ·have k0:=xq.cell 0 rfl
         have f0:=xq.fz 0
         have k1:=xq.cell 1 rfl
         have f1:=xq.fz 1
         have k2:=xq.cell 2 rfl
         have f2:=xq.fz 2
         have plt:=xq.lt
         go_simp
         have gf:=only_trans (only_trans (only_set v1 xb 0 (.int .u32 num)) (only_set _ xb 1 (.int .u32 a))) (only_set _ xb 2 (.slice none 0 0))
         have xbf:=((xq.set 0 (.int .u32 num)).set 1 (.int .u32 a)).set 2 (.slice none 0 0)
         have hbf:=only_below hbv1 gf hbv1.size hxb
         refine hK.out _ _ ?_ (fun hHeld3=>?_)
         ·exact ⟨cell_grown hHeld2.1 gf (by omega),cell_grown hHeld2.2.1 gf (by omega),cell_grown hHeld2.2.2.1 gf (by omega),cell_grown hHeld2.2.2.2.1 gf (by omega),Nat.lt_of_lt_of_le hHeld2.2.2.2.2.1 gf.size,Nat.lt_of_lt_of_le hHeld2.2.2.2.2.2 gf.size⟩
         clear hK K k0 k1 k2 f0 f1 f2
         try simp only [Act.put,pA,pB,pC]
         refine wpAnyH_done (by kernel_rfl) ?_ _
         go_wp2_with fail
         go_meet
         case rel=>exact ⟨xb,a,rfl,ha32,hxb,qd ⟨haB,HaF.out⟩,qd xbf,qd hbf⟩
        exact AllReadyH.nil
       exact AllReadyH.nil
      refine crH (k:=fun K hK=>?_) (r:=?_)
      ·go_simp
       have xq:=Bk.new v0 86 #[.int .u32 0,.int .u32 0,.slice none 0 0] (l:=[.int .u32 0,.int .u32 0,.slice none 0 0]) rfl
       have hbx:=oneb v0 (.cells #[.int .u32 0,.int .u32 0,.slice none 0 0] 86)
       have hxb:w5.heap.size≤v0.heap.size:=hbv0.size
       refine hK.out _ _ ?_ (fun hHeld1=>?_)
       ·exact ⟨cell_below hHeld0.1 hbx,cell_below hHeld0.2.1 hbx,cell_below hHeld0.2.2.1 hbx,cell_below hHeld0.2.2.2.1 hbx,Nat.lt_of_lt_of_le hHeld0.2.2.2.2.1 hbx.size,Nat.lt_of_lt_of_le hHeld0.2.2.2.2.2 hbx.size⟩
       clear hK K
       try simp only [Act.put,pA,pB,pC]
       have hbv1:=hbv0.trans (hbx.mono hbv0.size)
       clear hbx hHeld0
       obtain ⟨xb,hxe⟩:∃xb,xb=v0.heap.size:=⟨_,rfl⟩
       rw [←hxe] at hxb xq ⊢
       generalize v0.alloc _=v1 at hHeld1 hbv1 xq ⊢
       clear hxe
       refine wpAnyH_ready (rs:=[15]) (by kernel_rfl) (by simp) ?_
       refine crH (k:=fun K hK=>?_) (r:=?_)
       ·go_simp
        refine (action_any ract rerr _ hact2 herr).mono ?_
        rintro e v' ⟨⟨a,rfl,haB,ha32,haF⟩,rfl⟩
        have HaF:=qd haF
        clear haF
        refine hK.out _ _ hHeld1 (fun hHeld2=>?_)
        clear hK K
        try simp only [Act.put,pA,pB,pC]
        refine tkH (i:=16) (s:=hHeld2) (h:=?_)
        try simp only [Act.put,pA,pB,pC]
        refine wpAnyH_ready (rs:=[18]) (by kernel_rfl) (by simp) ?_
        refine crH (k:=fun K hK=>?_) (r:=?_)
        ·have k0:=xq.cell 0 rfl
         have f0:=xq.fz 0
         have k1:=xq.cell 1 rfl
         have f1:=xq.fz 1
         have k2:=xq.cell 2 rfl
         have f2:=xq.fz 2
         have plt:=xq.lt
         go_simp
         have gf:=only_trans (only_trans (only_set v1 xb 0 (.int .u32 num)) (only_set _ xb 1 (.int .u32 a))) (only_set _ xb 2 (.slice none 0 0))
         have xbf:=((xq.set 0 (.int .u32 num)).set 1 (.int .u32 a)).set 2 (.slice none 0 0)
         have hbf:=only_below hbv1 gf hbv1.size hxb
         refine hK.out _ _ ?_ (fun hHeld3=>?_)
         ·exact ⟨cell_grown hHeld2.1 gf (by omega),cell_grown hHeld2.2.1 gf (by omega),cell_grown hHeld2.2.2.1 gf (by omega),cell_grown hHeld2.2.2.2.1 gf (by omega),Nat.lt_of_lt_of_le hHeld2.2.2.2.2.1 gf.size,Nat.lt_of_lt_of_le hHeld2.2.2.2.2.2 gf.size⟩
         clear hK K k0 k1 k2 f0 f1 f2
         try simp only [Act.put,pA,pB,pC]
         refine wpAnyH_done (by kernel_rfl) ?_ _
         go_wp2_with fail
         go_meet
         case rel=>exact ⟨xb,a,rfl,ha32,hxb,qd ⟨haB,HaF.out⟩,qd xbf,qd hbf⟩
        exact AllReadyH.nil
       exact AllReadyH.nil
      exact AllReadyH.nil
     case rest=>
       obtain ⟨xb,a,rfl,ha32,hxb,HaB,HXq,HBq⟩:=hcut
       rename World=>wd
       have hq3:=(HK5.out.kept HBq.out).cell 3 rfl
       have hl5d:wr.heap.size<wd.heap.size:=Nat.lt_of_lt_of_le hl5 HBq.out.size
       have hb5d:=HB5.out.trans (HBq.out.mono HB5.out.size)
       have HB5d:=qd hb5d
       have HWd:=qd (HW5.out.kept HBq.out)
       have HTd:=qd (HT5.out.kept HBq.out)
       have hxlt:=HXq.out.lt
       have HXB:Hid (XB kP wd wd xb (.int .u32 num) (.int .u32 a) (.slice none 0 0) []):=qd ⟨HXq.out,World.ownsRow_nil _ _ _ _,only_refl _ _,hxlt⟩
       clear q0 q1 q2 q3 tc0 tlt hb5d hl5
       go_wp2_with fail
       clear hq3
       go_loopw [67] (fun iv wx=>∃(j:Nat) (cv:Value) (cl:List CondM),iv=.int .i64 j∧j≤nc∧cl.length=min j 4∧Hid ((∀c∈cl,condE c=0∧c.ok)∧cl=(cs.take (min j 4)).map scF)∧Hid (XB kP wd wx xb (.int .u32 num) (.int .u32 a) cv cl)) (fun iv _=>nc-(intOf iv).toNat)
       case atStart=>exact ⟨0,_,[],rfl,Nat.zero_le _,rfl,qd ⟨by simp,by simp⟩,HXB⟩
       case round=>
        rename World=>wx
        obtain ⟨j,cv,cl,rfl,hj,hcl,HCl,HXx⟩:=hrel
        have hlx:wd.heap.size≤wx.heap.size:=HXx.out.grow.size
        have hxl:=HXx.out.x.lt
        have HBx:=qd (HXx.out.bel HB5d.out (by omega))
        by_cases hjl:j<nc
        ·obtain ⟨c,hc⟩:∃c,cs[j]?=some c:=⟨_,List.getElem?_eq_getElem (by have:=HNc.out;omega)⟩
         obtain ⟨bc,oc',hAc,hbc,hcell⟩:=(HRc.out.below HBx.out).one (fun _=>rfl) (by omega) (by omega)
         subst hAc
         obtain ⟨c0,c1,c2,c3⟩:=scond_cells hcell hc
         have hcok:=HCok.out c (List.mem_of_getElem? hc)
         have hck:=qd (fun W=>condCond_any c.a c.b c.m c.v W hcok.1 hcok.2.1 hcok.2.2.1 hcok.2.2.2)
         have HXa0:=qd (HXx.out.kept (oneb wx (.cells #[.int .u8 c.a,.int .u8 c.b,.int .u8 c.m,.int .u8 c.v] 125)))
         have HCj:=qd hc
         clear hcell hc hcok
         by_cases hj4:j<4
         ·have g4:(j:Int)<4:=by omega
          have d4:decide ((j:Int)<4)=true:=decide_eq_true g4
          go_upto_region 12 with fail
          have hxa:=HXa0.out.x
          have x2:=hxa.cell 2 rfl
          have xlt:=hxa.lt
          clear hxa
          refine wp_region_any (by kernel_rfl) ?_
          change wpAny _ _ _ _ _ _ _ (World.drew _)
          refine wpAny_take (i:=0) (v:=?_) rfl (by kernel_rfl) (by kernel_rfl) (by kernel_rfl) (fun _ _ _ h=>h) (Or.inl ⟨by rfl,?_⟩) ?_
          rotate_left 1
          ·intro w
           go_simp<;>with_reducible rfl
          refine wpAny_ready (rs:=[1,2]) (by kernel_rfl) (by simp) ?_
          refine AllReady.cons rfl (fun K hK=>?_) ?_
          ·skip
           go_simp
           refine hK _ _ ?_
           clear hK K
           refine wpAny_ready (rs:=[2]) (by kernel_rfl) (by simp) ?_
           refine AllReady.cons rfl (fun K hK=>?_) ?_
           ·skip
            go_simp
            refine hK _ _ ?_
            clear hK K
            refine wpAny_ready (rs:=[3]) (by kernel_rfl) (by simp) ?_
            refine AllReady.cons rfl (fun K hK=>?_) ?_
            ·skip
             go_simp
             refine (hck.out _).mono ?_
             rintro e wa ⟨⟨cm,rfl,hce,hcok2,hcF⟩,hba0⟩
             refine hK _ _ ?_
             clear hK K
             have HXa:=qd (HXa0.out.kept (un_drewP hba0))
             have y2:=HXa.out.x.cell 2 rfl
             have ylt:=HXa.out.x.lt
             have HCe:=qd hce
             have HCo:=qd hcok2
             have HCF:=qd hcF
             clear hba0 hce hcok2 hcF
             refine wpAny_ready (rs:=[4]) (by kernel_rfl) (by simp) ?_
             refine AllReady.cons rfl (fun K hK=>?_) ?_
             ·skip
              go_simp
              refine hK _ _ ?_
              clear hK K
              refine wpAny_ready (rs:=[5]) (by kernel_rfl) (by simp) ?_
              refine AllReady.cons rfl (fun K hK=>?_) ?_
              ·skip
               rw [if_pos (by rfl)]
               obtain ⟨v9,wb,hr,HAd⟩:=XB.run (t:=84) (ty:=84) HXa.out cm infoPC rfl Tryz.underlying84 (by decide) (by decide) (by omega) #[.int .i64 cm.arg,.int .u8 cm.op,.int .u64 cm.mask,.int .u64 cm.val] rfl (by intro u hu;simp [kP,CondM.cells] at hu;rcases hu with rfl|rfl|rfl|rfl<;>rfl)
               obtain ⟨Av,cv9,hve,_⟩:=own_typed HAd.2.own
               obtain ⟨nl,hnl⟩:∃nl,nl=(cl++[cm]).length:=⟨_,rfl⟩
               rw [←hnl] at hve
               clear hnl
               subst hve
               refine op_append (.tmp 75) (.tmp 78) 84 rfl _ _ _ wb rfl rfl hr ?_
               refine hK _ _ ?_
               clear hK K
               have z2:=HAd.1.cell 2 rfl
               have zf:=HAd.1.fz 2
               have zlt:=HAd.1.lt
               have HAD:=qd HAd.2
               clear HAd hr y2 ylt HXa
               refine wpAny_take (i:=6) (v:=?_) rfl (by kernel_rfl) (by kernel_rfl) (by kernel_rfl) (fun _ _ _ h=>h) (Or.inl ⟨by rfl,?_⟩) ?_
               rotate_left 1
               ·intro w
                go_simp<;>with_reducible rfl
               refine wpAny_ready (rs:=[7]) (by kernel_rfl) (by simp) ?_
               refine AllReady.cons rfl (fun K hK=>?_) ?_
               ·skip
                go_simp
                refine hK _ _ ?_
                clear hK K
                refine wpAny_done (by kernel_rfl) ?_ _
                go_wp2_with fail
                go_roundw
                case rel=>exact ⟨j+1,_,cl++[cm],by go_num,by omega,by simp;omega,qd ⟨fun x hx=>by rcases List.mem_append.1 hx with h|h;exact HCl.out.1 x h;simp only [List.mem_singleton] at h;subst h;exact ⟨HCe.out,HCo.out⟩,by rw [HCF.out];exact take_snocF scF HCl.out.2 HCj.out (by omega) (by omega)⟩,HAD⟩
                case measure=>simp [intOf];omega
               exact AllReady.nil
              exact AllReady.nil
             exact AllReady.nil
            exact AllReady.nil
           exact AllReady.nil
          refine AllReady.cons rfl (fun K hK=>?_) ?_
          ·skip
           go_simp
           refine hK _ _ ?_
           clear hK K
           refine wpAny_ready (rs:=[1,3]) (by kernel_rfl) (by simp) ?_
           refine AllReady.cons rfl (fun K hK=>?_) ?_
           ·skip
            go_simp
            refine hK _ _ ?_
            clear hK K
            refine wpAny_ready (rs:=[3]) (by kernel_rfl) (by simp) ?_
            refine AllReady.cons rfl (fun K hK=>?_) ?_
            ·skip
             go_simp
             refine (hck.out _).mono ?_
             rintro e wa ⟨⟨cm,rfl,hce,hcok2,hcF⟩,hba0⟩
             refine hK _ _ ?_
             clear hK K
             have HXa:=qd (HXa0.out.kept (un_drewP hba0))
             have y2:=HXa.out.x.cell 2 rfl
             have ylt:=HXa.out.x.lt
             have HCe:=qd hce
             have HCo:=qd hcok2
             have HCF:=qd hcF
             clear hba0 hce hcok2 hcF
             refine wpAny_ready (rs:=[4]) (by kernel_rfl) (by simp) ?_
             refine AllReady.cons rfl (fun K hK=>?_) ?_
             ·skip
              go_simp
              refine hK _ _ ?_
              clear hK K
              refine wpAny_ready (rs:=[5]) (by kernel_rfl) (by simp) ?_
              refine AllReady.cons rfl (fun K hK=>?_) ?_
              ·skip
               rw [if_pos (by rfl)]
               obtain ⟨v9,wb,hr,HAd⟩:=XB.run (t:=84) (ty:=84) HXa.out cm infoPC rfl Tryz.underlying84 (by decide) (by decide) (by omega) #[.int .i64 cm.arg,.int .u8 cm.op,.int .u64 cm.mask,.int .u64 cm.val] rfl (by intro u hu;simp [kP,CondM.cells] at hu;rcases hu with rfl|rfl|rfl|rfl<;>rfl)
               obtain ⟨Av,cv9,hve,_⟩:=own_typed HAd.2.own
               obtain ⟨nl,hnl⟩:∃nl,nl=(cl++[cm]).length:=⟨_,rfl⟩
               rw [←hnl] at hve
               clear hnl
               subst hve
               refine op_append (.tmp 75) (.tmp 78) 84 rfl _ _ _ wb rfl rfl hr ?_
               refine hK _ _ ?_
               clear hK K
               have z2:=HAd.1.cell 2 rfl
               have zf:=HAd.1.fz 2
               have zlt:=HAd.1.lt
               have HAD:=qd HAd.2
               clear HAd hr y2 ylt HXa
               refine wpAny_take (i:=6) (v:=?_) rfl (by kernel_rfl) (by kernel_rfl) (by kernel_rfl) (fun _ _ _ h=>h) (Or.inl ⟨by rfl,?_⟩) ?_
               rotate_left 1
               ·intro w
                go_simp<;>with_reducible rfl
               refine wpAny_ready (rs:=[7]) (by kernel_rfl) (by simp) ?_
               refine AllReady.cons rfl (fun K hK=>?_) ?_
               ·skip
                go_simp
                refine hK _ _ ?_
                clear hK K
                refine wpAny_done (by kernel_rfl) ?_ _
                go_wp2_with fail
                go_roundw
                case rel=>exact ⟨j+1,_,cl++[cm],by go_num,by omega,by simp;omega,qd ⟨fun x hx=>by rcases List.mem_append.1 hx with h|h;exact HCl.out.1 x h;simp only [List.mem_singleton] at h;subst h;exact ⟨HCe.out,HCo.out⟩,by rw [HCF.out];exact take_snocF scF HCl.out.2 HCj.out (by omega) (by omega)⟩,HAD⟩
                case measure=>simp [intOf];omega
               exact AllReady.nil
              exact AllReady.nil
             exact AllReady.nil
            exact AllReady.nil
           refine AllReady.cons rfl (fun K hK=>?_) ?_
           ·skip
            go_simp
            refine (hck.out _).mono ?_
            rintro e wa ⟨⟨cm,rfl,hce,hcok2,hcF⟩,hba0⟩
            refine hK _ _ ?_
            clear hK K
            have HXa:=qd (HXa0.out.kept (un_drewP hba0))
            have y2:=HXa.out.x.cell 2 rfl
            have ylt:=HXa.out.x.lt
            have HCe:=qd hce
            have HCo:=qd hcok2
            have HCF:=qd hcF
            clear hba0 hce hcok2 hcF
            refine wpAny_ready (rs:=[1,4]) (by kernel_rfl) (by simp) ?_
            refine AllReady.cons rfl (fun K hK=>?_) ?_
            ·skip
             go_simp
             refine hK _ _ ?_
             clear hK K
             refine wpAny_ready (rs:=[4]) (by kernel_rfl) (by simp) ?_
             refine AllReady.cons rfl (fun K hK=>?_) ?_
             ·skip
              go_simp
              refine hK _ _ ?_
              clear hK K
              refine wpAny_ready (rs:=[5]) (by kernel_rfl) (by simp) ?_
              refine AllReady.cons rfl (fun K hK=>?_) ?_
              ·skip
               rw [if_pos (by rfl)]
               obtain ⟨v9,wb,hr,HAd⟩:=XB.run (t:=84) (ty:=84) HXa.out cm infoPC rfl Tryz.underlying84 (by decide) (by decide) (by omega) #[.int .i64 cm.arg,.int .u8 cm.op,.int .u64 cm.mask,.int .u64 cm.val] rfl (by intro u hu;simp [kP,CondM.cells] at hu;rcases hu with rfl|rfl|rfl|rfl<;>rfl)
               obtain ⟨Av,cv9,hve,_⟩:=own_typed HAd.2.own
               obtain ⟨nl,hnl⟩:∃nl,nl=(cl++[cm]).length:=⟨_,rfl⟩
               rw [←hnl] at hve
               clear hnl
               subst hve
               refine op_append (.tmp 75) (.tmp 78) 84 rfl _ _ _ wb rfl rfl hr ?_
               refine hK _ _ ?_
               clear hK K
               have z2:=HAd.1.cell 2 rfl
               have zf:=HAd.1.fz 2
               have zlt:=HAd.1.lt
               have HAD:=qd HAd.2
               clear HAd hr y2 ylt HXa
               refine wpAny_take (i:=6) (v:=?_) rfl (by kernel_rfl) (by kernel_rfl) (by kernel_rfl) (fun _ _ _ h=>h) (Or.inl ⟨by rfl,?_⟩) ?_
               rotate_left 1
               ·intro w
                go_simp<;>with_reducible rfl
               refine wpAny_ready (rs:=[7]) (by kernel_rfl) (by simp) ?_
               refine AllReady.cons rfl (fun K hK=>?_) ?_
               ·skip
                go_simp
                refine hK _ _ ?_
                clear hK K
                refine wpAny_done (by kernel_rfl) ?_ _
                go_wp2_with fail
                go_roundw
                case rel=>exact ⟨j+1,_,cl++[cm],by go_num,by omega,by simp;omega,qd ⟨fun x hx=>by rcases List.mem_append.1 hx with h|h;exact HCl.out.1 x h;simp only [List.mem_singleton] at h;subst h;exact ⟨HCe.out,HCo.out⟩,by rw [HCF.out];exact take_snocF scF HCl.out.2 HCj.out (by omega) (by omega)⟩,HAD⟩
                case measure=>simp [intOf];omega
               exact AllReady.nil
              exact AllReady.nil
             exact AllReady.nil
            refine AllReady.cons rfl (fun K hK=>?_) ?_
            ·skip
             go_simp
             refine hK _ _ ?_
             clear hK K
             refine wpAny_ready (rs:=[1]) (by kernel_rfl) (by simp) ?_
             refine AllReady.cons rfl (fun K hK=>?_) ?_
             ·skip
              go_simp
              refine hK _ _ ?_
              clear hK K
              refine wpAny_ready (rs:=[5]) (by kernel_rfl) (by simp) ?_
              refine AllReady.cons rfl (fun K hK=>?_) ?_
              ·skip
               rw [if_pos (by rfl)]
               obtain ⟨v9,wb,hr,HAd⟩:=XB.run (t:=84) (ty:=84) HXa.out cm infoPC rfl Tryz.underlying84 (by decide) (by decide) (by omega) #[.int .i64 cm.arg,.int .u8 cm.op,.int .u64 cm.mask,.int .u64 cm.val] rfl (by intro u hu;simp [kP,CondM.cells] at hu;rcases hu with rfl|rfl|rfl|rfl<;>rfl)
               obtain ⟨Av,cv9,hve,_⟩:=own_typed HAd.2.own
               obtain ⟨nl,hnl⟩:∃nl,nl=(cl++[cm]).length:=⟨_,rfl⟩
               rw [←hnl] at hve
               clear hnl
               subst hve
               refine op_append (.tmp 75) (.tmp 78) 84 rfl _ _ _ wb rfl rfl hr ?_
               refine hK _ _ ?_
               clear hK K
               have z2:=HAd.1.cell 2 rfl
               have zf:=HAd.1.fz 2
               have zlt:=HAd.1.lt
               have HAD:=qd HAd.2
               clear HAd hr y2 ylt HXa
               refine wpAny_take (i:=6) (v:=?_) rfl (by kernel_rfl) (by kernel_rfl) (by kernel_rfl) (fun _ _ _ h=>h) (Or.inl ⟨by rfl,?_⟩) ?_
               rotate_left 1
               ·intro w
                go_simp<;>with_reducible rfl
               refine wpAny_ready (rs:=[7]) (by kernel_rfl) (by simp) ?_
               refine AllReady.cons rfl (fun K hK=>?_) ?_
               ·skip
                go_simp
                refine hK _ _ ?_
                clear hK K
                refine wpAny_done (by kernel_rfl) ?_ _
                go_wp2_with fail
                go_roundw
                case rel=>exact ⟨j+1,_,cl++[cm],by go_num,by omega,by simp;omega,qd ⟨fun x hx=>by rcases List.mem_append.1 hx with h|h;exact HCl.out.1 x h;simp only [List.mem_singleton] at h;subst h;exact ⟨HCe.out,HCo.out⟩,by rw [HCF.out];exact take_snocF scF HCl.out.2 HCj.out (by omega) (by omega)⟩,HAD⟩
                case measure=>simp [intOf];omega
               exact AllReady.nil
              exact AllReady.nil
             exact AllReady.nil
            exact AllReady.nil
           exact AllReady.nil
          exact AllReady.nil
         ·have g4:¬(j:Int)<4:=by omega
          have d4:decide ((j:Int)<4)=false:=decide_eq_false g4
          go_wp2_with fail
          go_roundw
          case rel=>exact ⟨j+1,cv,cl,by go_num,by omega,by omega,qd ⟨HCl.out.1,by rw [show min (j+1) 4=min j 4 from by omega];exact HCl.out.2⟩,HXa0⟩
          case measure=>simp [intOf];omega
        ·have hx:=HXx.out
         obtain ⟨A9,c9,hve,_,hTR,_,_⟩:=own_typed hx.own
         obtain ⟨cn,hcn⟩:∃q,q=cl.length:=⟨_,rfl⟩
         have hTR':TRd wx kP.tC 4 cl.length A9 (cl.flatMap kP.fC):=hTR
         rw [←hcn] at hve
         subst hve
         have hb5x:=hx.bel HBq.out hxb
         have HWx:=qd (HW5.out.kept hb5x)
         have HTx:=qd (HT5.out.kept hb5x)
         have x0:=hx.x.cell 0 rfl
         have x1:=hx.x.cell 1 rfl
         have x2:=hx.x.cell 2 rfl
         have o2:=HWx.out.out.cell 2 rfl
         have hol:=HWx.out.out.lt
         have hrs:rs.length≤12:=by omega
         have hbB:Bc≤wx.heap.size:=HWx.out.hB.2
         have HTR:=qd hTR'
         have HN3:=qd (show RuleV.cells ⟨⟨num,a,cl⟩,A9,c9⟩=[.int .u32 num,.int .u32 a,.slice A9 cn c9] by rw [hcn];rfl)
         have HRE:=qd (show ruleE ⟨num,a,cl⟩=0∧cl.length≤4∧RuleM.ok ⟨num,a,cl⟩ by
          have hc0:∀c∈cl,condE c=0∧c.ok:=HCl.out.1
          refine ⟨?_,by omega,⟨show num<4294967296 by omega,ha32,show cl.length≤maxLen by unfold maxLen;omega,fun c hc=>(hc0 c hc).2⟩⟩
          unfold ruleE
          rw [if_neg (by show ¬(byNum (num:Nat)).isSome=false;rw [HNum.out];simp),if_neg (by show ¬actB a=false;rw [HaB.out.1];simp),if_neg (by show ¬6<cl.length;omega)]
          exact firstE_zero _ _ _ (fun i x hx=>(hc0 x (List.mem_of_getElem? hx)).1))
         have HRF:=qd (show (⟨num,a,cl⟩:RuleM)=⟨num,actF ract rerr,(cs.take 4).map scF⟩ by
          have e:cs.take (min j 4)=cs.take 4:=by
           have:=HNc.out
           by_cases h4:j≤4
           ·rw [Nat.min_eq_left h4,List.take_of_length_le (by omega),List.take_of_length_le (by omega)]
           ·rw [Nat.min_eq_right (by omega)]
          rw [HaB.out.2,HCl.out.2,e])
         have hcl4:cl.length≤4:=by omega
         clear hx hTR hTR' hb5x hcn hcl
         go_wp2_with (at_builtin;refine append_one rfl (.tmp 83) (.tmp 85) 24 86 rfl _ 3 32 infoPR Tryz.underlying24 rfl (by decide) (by decide) Bc _ rs.length (rs.flatMap RuleV.cells) rfl (HWx.out.r.alloc _) wx.heap.size [.int .u32 num,.int .u32 a,.slice A9 cn c9] rfl rfl (Bk.new wx _ _ rfl) (by intro u hu;simp at hu;rcases hu with rfl|rfl|rfl<;>rfl) (by omega) (by simp;omega) ?_;intro v' w8 hown' hgrow hat;have hWa:=HWx.out.kept (oneb wx (.cells #[.int .u32 num,.int .u32 a,.slice A9 cn c9] 86));obtain ⟨_,_,_,_,_,htyv,_⟩:=own_typed hWa.r;have hoa:=hWa.out.appended hgrow htyv kP.n4;have z2:=hoa.cell 2 rfl;have zf:=hoa.fz 2;have zl:=hoa.lt;have HAd:=qd (hWa.addRule ⟨⟨num,a,cl⟩,A9,c9⟩ (HTR.out.below (oneb wx _)) (by rw [HN3.out];exact hown') hgrow);have hta:=(HTx.out.kept (oneb wx (.cells #[.int .u32 num,.int .u32 a,.slice A9 cn c9] 86))).appended hgrow htyv (by decide);have HTa:=fun v=>qd (hta.grown (only_set w8 pB 2 v) (fun e=>(hta.tyb.ne hoa.tyb (by decide)) (Option.some.inj e)));obtain ⟨A7,c7,hv7,_⟩:=own_typed hown';rw [hrl] at hv7;subst hv7;clear hown' hgrow hat hWa htyv hoa hta)
         go_roundw
         case rel=>exact ⟨k+1,rs++[⟨⟨num,a,cl⟩,A9,c9⟩],_,by go_num,by omega,by omega,by simp;omega,qd ⟨fun r hr=>by rcases List.mem_append.1 hr with h|h;exact HRu.out.1 r h;simp only [List.mem_singleton] at h;subst h;exact HRE.out,by rw [List.map_append,HRu.out.2,List.take_succ_eq_append_getElem (List.getElem?_eq_some_iff.1 HRk.out).1,List.map_append,(List.getElem?_eq_some_iff.1 HRk.out).2];show _++[_]=_++[_];congr 1;rw [HRF.out,HNum2.out];rfl⟩,HAd,HTa _⟩
         case measure=>simp [intOf];omega
    ·go_wp2_with fail
     go_meet
     case rel=>exact ⟨rs,v2,by omega,qd ⟨HRu.out.1,by rw [HRu.out.2,List.take_of_length_le (by have:=Hsn.out;omega),List.take_of_length_le (by have:=Hsn.out;omega)]⟩,HW⟩
  case rest=>
   obtain ⟨rs,v2,hr12,HRu,HWr⟩:=hcut
   rename World=>we
   have hsb:=(HK0x.out.below (HWr.out.bel) (by omega)).cell 5 rfl
   have hbe1:=HWr.out.out.lt
   have hmk:=World.ownsMap_made (H:=Unit) we Tryz.prog 9 boolR
   have hwe1:=HWr.out.bel.size
   have hmm:=@run_makeMap Tryz.prog
   have hlwe:w.heap.size<we.heap.size:=by omega
   go_wp2_with fail
   have hWf:=HWr.out.kept (oneb we (.map #[] 0))
   have hsf:(we.alloc (.map #[] 0)).heap.size=we.heap.size+1:=by simp
   generalize we.alloc _=wf at hmk hWf hsf ⊢
   have HS0:Hid (SeenS wf we.heap.size 0 []):=qd hmk
   have HWf:=qd hWf
   clear hmk hWf hsb hmm
   go_loopw [94] (fun iv wy=>∃(i n:Nat) (v4:Value) (pt:List (Bs×Nat)),iv=.int .i64 i∧i≤dn∧n≤i∧Hid (PtOk hd pt)∧Hid (RB kP w1 wy Bc (w.heap.size+1) pB [.string ⟨#[]⟩,.int .u32 0,.slice none 0 0,.int .u16 0,.slice none 0 0,.slice none 0 0] (.string ⟨nm.toArray⟩) (.int .u32 act) v2 (.int .u16 hd) v4 (.slice none 0 0) rs pt [])∧Hid (SeenS wy we.heap.size n (pt.map Prod.fst))) (fun iv _=>dn-(intOf iv).toNat)
   case atStart=>exact ⟨0,0,_,[],rfl,Nat.zero_le _,Nat.le_refl _,qd ⟨by simp,by simp⟩,HWf,HS0⟩
   case round=>
    rename World=>wy
    obtain ⟨i,n,v4,pt,rfl,hi,hni,HPt,HWy,HSy⟩:=hrel
    have hld:=Hld.out
    have hly:w.heap.size+1<wy.heap.size:=HWy.out.res.lt
    by_cases hil:i<dn
    ·obtain ⟨x,hx⟩:∃x,dl[i]?=some x:=⟨_,List.getElem?_eq_getElem (by have:=Hdn.out;omega)⟩
     have hx256:=Hdok.out x (List.mem_of_getElem? hx)
     obtain ⟨bd,od,hAd,hbd,hcell⟩:=(HRD.out.below (HB0.out.trans (HWy.out.bel.mono HB0.out.size))).pos (by omega)
     subst hAd
     have c0:=hcell i _ (u8s_at hx)
     have rx:Int.tmod (x:Int) 6=((x%6:Nat):Int):=by rw [Int.tmod_eq_emod_of_nonneg (by omega)];omega
     obtain ⟨di,hdi⟩:∃q,q=x%6:=⟨_,rfl⟩
     have di6:di<6:=by omega
     have di6i:(di:Int)<6:=by omega
     rw [←hdi] at rx
     have wdi:IntKind.i64.wrap (di:Int)=(di:Int):=IntWalk.i64_in _ (by omega)
     have wxx:IntKind.i64.wrap (x:Int)=(x:Int):=IntWalk.i64_in _ (by omega)
     obtain ⟨pa,hpa⟩:∃q,dirs6[di]?=some q:=⟨_,List.getElem?_eq_getElem (by simpa [dirs6] using di6)⟩
     have hpl:=dirs6_ok pa (List.mem_of_getElem? hpa)
     clear hdi hcell hx
     go_wp2_with fail
     refine (dirs_any _).mono ?_
     clear c0
     rintro e wa ⟨rfl,hka,hba⟩
     have HKa:=qd hka
     have HBa:=qd hba
     clear hka hba
     go_wp2_with fail
     refine (dirs_any _).mono ?_
     rintro e wb ⟨rfl,hkb,hbb⟩
     have hka:=HKa.out.kept hbb
     have d0:=hka.cell di (strs_at hpa)
     have dlt:=hka.lt
     have HBb:=qd (HBa.out.trans (hbb.mono HBa.out.size))
     clear hkb hbb hka
     have hWb:=HWy.out.kept HBb.out
     have hpB3:=hWb.out.cell 3 rfl
     have hpBl:=hWb.out.lt
     have hrg:=qd (rights_any i 2047 hd w.heap.size pB gl GA gn gc wb (by omega) (by omega) hdl Hgn.out Hgok.out Hlg.out (HRG.out.below (HB0.out.trans (hWb.bel.mono HB0.out.size))) ((HK0x.out.below hWb.bel (by omega)).cell 6 rfl) hpB3)
     clear hWb hpB3
     go_wp2_with fail
     refine hrg.out.mono ?_
     clear hrg d0
     rintro e wd ⟨⟨r,rfl,hr16,hrg⟩,hbd2⟩
     have HBd:=qd (HBb.out.trans (hbd2.mono HBb.out.size))
     have HWd:=qd (HWy.out.kept HBd.out)
     have HSd:=qd (HSy.out.below HBd.out)
     have HGr:=qd hrg
     have hlk:=HSd.out.look pa (by unfold maxLen;omega)
     clear hbd2 hrg dlt hpBl
     cases hsn:decide (pa∈pt.map Prod.fst) with
     | true=>
      rw [hsn] at hlk
      clear hsn
      go_wp2_with fail
      go_roundw
      case rel=>exact ⟨i+1,n,v4,pt,by go_num,by omega,by omega,HPt,HWd,HSd⟩
      case measure=>simp [intOf];omega
     | false=>
      rw [hsn] at hlk
      have HNin:=qd (show pa∉pt.map Prod.fst from by simpa using hsn)
      clear hsn
      by_cases hr0:r=0
      ·have g0:((r:Int) != 0)=false:=by rw [bne_eq_false_iff_eq];omega
       clear hr0
       go_wp2_with fail
       go_roundw
       case rel=>exact ⟨i+1,n,v4,pt,by go_num,by omega,by omega,HPt,HWd,HSd⟩
       case measure=>simp [intOf];omega
      ·have g0:((r:Int) != 0)=true:=by rw [bne_iff_ne];omega
       have HP2:=qd (show PtOk hd (pt++[(pa,r)]) from HPt.out.snoc (List.mem_of_getElem? hpa) (HGr.out hr0) hr16 HNin.out)
       have hp6:=HPt.out.len
       have hbB:Bc≤wd.heap.size:=HWd.out.hB.2
       have hmB:w1.heap.size≤we.heap.size:=hwe1
       clear hr0
       go_wp2_with (first
        | (at_mapUpdate;go_loud (refine wpList_mapUpdate_own _ rfl _ _ _ 127 rfl 9 4 strK Tryz.underlying127 boolR we.heap.size n (seenD ((pt.map Prod.fst).map fun s=>Lit.string s)) rfl (show wd.ownsMap Tryz.prog 9 boolR we.heap.size n (seenD ((pt.map Prod.fst).map fun s=>Lit.string s)) from HSd.out) (by unfold maxLen;omega) _ _ (.string pa) rfl rfl (keyOf_string_mk Tryz.underlying9 (s:=⟨pa.toArray⟩) (by rw [Lib.size_eq];unfold maxLen;show pa.length≤_;omega)) (.lit (.bool true)) [] rfl ?_);intro wg howng hgg;have hWg:=HWd.out.mapped hgg HSd.out.blk hmB;have o4:=hWg.out.cell 4 rfl;have hol:=hWg.out.lt;have HSg:Hid (SeenS wg we.heap.size (n+1) ((pt++[(pa,r)]).map Prod.fst)):=qd (by unfold SeenS;rw [List.map_append,List.map_append];simp only [List.map_cons,List.map_nil];rw [seenD_snoc];exact howng);have hbBg:Bc≤wg.heap.size:=hWg.hB.2;have HWg:=qd hWg;clear howng hgg hWg)
        | (at_builtin;go_loud (refine append_one rfl (.tmp 121) (.tmp 125) 27 96 rfl _ 2 24 infoPB Tryz.underlying27 rfl (by decide) (by decide) Bc _ pt.length (pt.flatMap pathC) rfl (HWg.out.p.alloc _) wg.heap.size [.string ⟨pa.toArray⟩,.int .u16 r] rfl rfl (Bk.new wg _ _ rfl) (by intro u hu;simp at hu;rcases hu with rfl|rfl<;>rfl) (by omega) (by simp;omega) ?_);intro v' w8 hown' hgrow hat;have hWa:=HWg.out.kept (oneb wg (.cells #[.string ⟨pa.toArray⟩,.int .u16 r] 96));obtain ⟨_,_,_,_,_,htyv,_⟩:=own_typed hWa.p;have hoa:=hWa.out.appended hgrow htyv kP.n8;have z2:=hoa.cell 4 rfl;have zf:=hoa.fz 4;have zl:=hoa.lt;have HAd:=qd (hWa.addPath (pa,r) hown' hgrow);have hsa:=(HSg.out.below (oneb wg (.cells #[.string ⟨pa.toArray⟩,.int .u16 r] 96))).appended hgrow htyv;have HSa:=fun v=>qd (hsa.grown (only_set w8 pB 4 v) (fun e=>(hoa.tyb.nemap hsa.blk) e.symm));obtain ⟨A7,c7,hv7,_⟩:=own_typed hown';subst hv7;clear hown' hgrow hat hWa htyv hoa hsa))
       go_roundw
       case rel=>exact ⟨i+1,n+1,_,pt++[(pa,r)],by go_num,by omega,by omega,HP2,HAd,HSa _⟩
       case measure=>simp [intOf];omega
    ·have hsb:=(HK0x.out.below (HWy.out.bel) (by omega)).cell 7 rfl
     have hmk2:=World.ownsMap_made (H:=Unit) wy Tryz.prog 25 boolR
     have hwy1:=HWy.out.bel.size
     have hmm:=@run_makeMap Tryz.prog
     have hlwy:w.heap.size<wy.heap.size:=by omega
     go_wp2_with fail
     have hWf2:=HWy.out.kept (oneb wy (.map #[] 0))
     generalize wy.alloc _=wf2 at hmk2 hWf2 ⊢
     have HS2:Hid (SeenN wf2 wy.heap.size 0 []):=qd hmk2
     have HWf2:=qd hWf2
     clear hmk2 hWf2 hsb hmm
     go_loopw [133] (fun iv wz=>∃(q n2:Nat) (v5:Value) (po:List (Nat×Nat)),iv=.int .i64 q∧q≤pn∧n2≤q∧Hid (PoOk hd po)∧Hid (RB kP w1 wz Bc (w.heap.size+1) pB [.string ⟨#[]⟩,.int .u32 0,.slice none 0 0,.int .u16 0,.slice none 0 0,.slice none 0 0] (.string ⟨nm.toArray⟩) (.int .u32 act) v2 (.int .u16 hd) v4 v5 rs pt po)∧Hid (SeenN wz wy.heap.size n2 (po.map Prod.fst))) (fun iv _=>pn-(intOf iv).toNat)
     case atStart=>exact ⟨0,0,_,[],rfl,Nat.zero_le _,Nat.le_refl _,qd ⟨by simp,by simp⟩,HWf2,HS2⟩
     case round=>
      rename World=>wz
      obtain ⟨q,n2,v5,po,rfl,hq,hnq,HPo,HWz,HSz⟩:=hrel
      have hlp:=Hlp.out
      have hlz:w.heap.size+1<wz.heap.size:=HWz.out.res.lt
      by_cases hql:q<pn
      ·obtain ⟨x,hx⟩:∃x,pl[q]?=some x:=⟨_,List.getElem?_eq_getElem (by have:=Hpn.out;omega)⟩
       have hx256:=Hpok.out x (List.mem_of_getElem? hx)
       obtain ⟨bd,od,hAd,hbd,hcell⟩:=(HRP.out.below (HB0.out.trans (HWz.out.bel.mono HB0.out.size))).pos (by omega)
       subst hAd
       have c0:=hcell q _ (u8s_at hx)
       have rx:Int.tmod (x:Int) 4=((x%4:Nat):Int):=by rw [Int.tmod_eq_emod_of_nonneg (by omega)];omega
       obtain ⟨ki,hki⟩:∃k,k=x%4:=⟨_,rfl⟩
       have ki4:ki<4:=by omega
       rw [←hki] at rx
       have wk1:IntKind.u8.wrap (ki:Int)=(ki:Int):=by rw [IntKind.wrap_u8];omega
       obtain ⟨sq,hsq⟩:∃k,k=80+ki:=⟨_,rfl⟩
       have h80:(80:Int)+(ki:Int)=(sq:Int):=by omega
       have hsq1:80≤sq∧sq<84:=by omega
       have wk2:IntKind.u8.wrap (sq:Int)=(sq:Int):=by rw [IntKind.wrap_u8];omega
       have wk3:IntKind.u16.wrap (sq:Int)=(sq:Int):=by rw [IntKind.wrap_u16];omega
       have hWz':=HWz.out
       have hpB3:=hWz'.out.cell 3 rfl
       have hpBl:=hWz'.out.lt
       have hrg:=qd (rights_any q 49152 hd w.heap.size pB gl GA gn gc wz (by omega) (by omega) hdl Hgn.out Hgok.out Hlg.out (HRG.out.below (HB0.out.trans (hWz'.bel.mono HB0.out.size))) ((HK0x.out.below hWz'.bel (by omega)).cell 6 rfl) hpB3)
       clear hki hsq hcell hx hWz' hpB3
       go_wp2_with fail
       refine hrg.out.mono ?_
       clear hrg c0
       rintro e wd ⟨⟨r,rfl,hr16,hrg⟩,hbd2⟩
       have HWd:=qd (HWz.out.kept hbd2)
       have HSd:=qd (HSz.out.below hbd2)
       have HGr:=qd hrg
       have hlk:=HSd.out.look sq (by omega)
       clear hbd2 hrg hpBl
       cases hsn:decide (sq∈po.map Prod.fst) with
       | true=>
        rw [hsn] at hlk
        clear hsn
        go_wp2_with fail
        go_roundw
        case rel=>exact ⟨q+1,n2,v5,po,by go_num,by omega,by omega,HPo,HWd,HSd⟩
        case measure=>simp [intOf];omega
       | false=>
        rw [hsn] at hlk
        have HNin:=qd (show sq∉po.map Prod.fst from by simpa using hsn)
        clear hsn
        by_cases hr0:r=0
        ·have g0:((r:Int) != 0)=false:=by rw [bne_eq_false_iff_eq];omega
         clear hr0
         go_wp2_with fail
         go_roundw
         case rel=>exact ⟨q+1,n2,v5,po,by go_num,by omega,by omega,HPo,HWd,HSd⟩
         case measure=>simp [intOf];omega
        ·have g0:((r:Int) != 0)=true:=by rw [bne_iff_ne];omega
         have HP2:=qd (show PoOk hd (po++[(sq,r)]) from HPo.out.snoc hsq1 (HGr.out hr0) hr16 HNin.out)
         have hp4:=HPo.out.len
         have hbB:Bc≤wd.heap.size:=HWd.out.hB.2
         have hmB:w1.heap.size≤wy.heap.size:=hwy1
         have hwf:(Lit.int .u16 (sq:Int)).wf=true:=WalkArith.wf_u16 ⟨by omega,by omega⟩
         clear hr0
         go_wp2_with (first
          | (at_mapUpdate;go_loud (refine wpList_mapUpdate_own _ rfl _ _ _ 130 rfl 25 4 u16K Tryz.underlying130 boolR wy.heap.size n2 (seenD ((po.map Prod.fst).map fun (s:Nat)=>Lit.int .u16 s)) rfl (show wd.ownsMap Tryz.prog 25 boolR wy.heap.size n2 (seenD ((po.map Prod.fst).map fun (s:Nat)=>Lit.int .u16 s)) from HSd.out) (by unfold maxLen;omega) _ _ (.int .u16 sq) rfl rfl (keyOf_int_mk Tryz.underlying25 hwf) (.lit (.bool true)) [] rfl ?_);intro wg howng hgg;have hWg:=HWd.out.mapped hgg HSd.out.blk hmB;have o5:=hWg.out.cell 5 rfl;have hol:=hWg.out.lt;have HSg:Hid (SeenN wg wy.heap.size (n2+1) ((po++[(sq,r)]).map Prod.fst)):=qd (by unfold SeenN;rw [List.map_append,List.map_append];simp only [List.map_cons,List.map_nil];rw [seenD_snoc];exact howng);have hbBg:Bc≤wg.heap.size:=hWg.hB.2;have HWg:=qd hWg;clear howng hgg hWg)
          | (at_builtin;go_loud (refine append_one rfl (.tmp 156) (.tmp 160) 28 132 rfl _ 2 4 infoPP Tryz.underlying28 rfl (by decide) (by decide) Bc _ po.length (po.flatMap portC) rfl (HWg.out.q.alloc _) wg.heap.size [.int .u16 sq,.int .u16 r] rfl rfl (Bk.new wg _ _ rfl) (by intro u hu;simp at hu;rcases hu with rfl|rfl<;>rfl) (by omega) (by simp;omega) ?_);intro v' w8 hown' hgrow hat;have hWa:=HWg.out.kept (oneb wg (.cells #[.int .u16 sq,.int .u16 r] 132));obtain ⟨_,_,_,_,_,htyv,_⟩:=own_typed hWa.q;have hoa:=hWa.out.appended hgrow htyv kP.n12;have z2:=hoa.cell 5 rfl;have zf:=hoa.fz 5;have zl:=hoa.lt;have HAd:=qd (hWa.addPort (sq,r) hown' hgrow);have hsa:=(HSg.out.below (oneb wg (.cells #[.int .u16 sq,.int .u16 r] 132))).appended hgrow htyv;have HSa:=fun v=>qd (hsa.grown (only_set w8 pB 5 v) (fun e=>(hoa.tyb.nemap hsa.blk) e.symm));obtain ⟨A7,c7,hv7,_⟩:=own_typed hown';subst hv7;clear hown' hgrow hat hWa htyv hoa hsa))
         go_roundw
         case rel=>exact ⟨q+1,n2+1,_,po++[(sq,r)],by go_num,by omega,by omega,HP2,HAd,HSa _⟩
         case measure=>simp [intOf];omega
      ·have hWf:=HWz.out
       obtain ⟨R9,e2,hv2,_,hr9,_,_⟩:=own_typed hWf.r
       obtain ⟨P9,e4,hv4,_,hp9,_,_⟩:=own_typed hWf.p
       obtain ⟨Q9,e5,hv5,_,hq9,_,_⟩:=own_typed hWf.q
       obtain ⟨nr9,hnr9⟩:∃k,k=rs.length:=⟨_,rfl⟩
       obtain ⟨np9,hnp9⟩:∃k,k=pt.length:=⟨_,rfl⟩
       obtain ⟨nq9,hnq9⟩:∃k,k=po.length:=⟨_,rfl⟩
       rw [←hnr9] at hv2
       rw [←hnp9] at hv4
       rw [←hnq9] at hv5
       subst hv2 hv4 hv5
       have HWf:=qd hWf
       have HN9:=qd (And.intro hnr9 (And.intro hnp9 hnq9))
       have o0:=hWf.out.cell 0 rfl
       have o1:=hWf.out.cell 1 rfl
       have o2:=hWf.out.cell 2 rfl
       have o3:=hWf.out.cell 3 rfl
       have o4:=hWf.out.cell 4 rfl
       have o5:=hWf.out.cell 5 rfl
       have r0:=hWf.res.cell 0 rfl
       have f0:=hWf.res.fz 0
       have r1:=hWf.res.cell 1 rfl
       have f1:=hWf.res.fz 1
       have r2:=hWf.res.cell 2 rfl
       have f2:=hWf.res.fz 2
       have r3:=hWf.res.cell 3 rfl
       have f3:=hWf.res.fz 3
       have r4:=hWf.res.cell 4 rfl
       have f4:=hWf.res.fz 4
       have r5:=hWf.res.cell 5 rfl
       have f5:=hWf.res.fz 5
       have hol:=hWf.out.lt
       have hrl3:=hWf.res.lt
       clear hWf hr9 hp9 hq9 hnr9 hnp9 hnq9
       go_wp2_with fail
       have gf:=only_trans (only_trans (only_trans (only_trans (only_trans (only_set wz (w.heap.size+1) 0 (.string ⟨nm.toArray⟩)) (only_set _ (w.heap.size+1) 1 (.int .u32 act))) (only_set _ (w.heap.size+1) 2 (.slice R9 nr9 e2))) (only_set _ (w.heap.size+1) 3 (.int .u16 hd))) (only_set _ (w.heap.size+1) 4 (.slice P9 np9 e4))) (only_set _ (w.heap.size+1) 5 (.slice Q9 nq9 e5))
       refine bodyPost_ret (v:=.agg #[.string ⟨nm.toArray⟩,.int .u32 act,.slice R9 nr9 e2,.int .u16 hd,.slice P9 np9 e4,.slice Q9 nq9 e5]) (by simp [results,Tryz.results10,go_sem,r0,r1,r2,r3,r4,r5]) rfl ?_
       obtain ⟨rfl,rfl,rfl⟩:=HN9.out
       have ht:=HWf.out.res.tyb
       have hBs:w.heap.size≤Bc:=by omega
       exact ⟨nm,act,rs,R9,e2,hd,pt,P9,e4,po,Q9,e5,rfl,
        ⟨own_base (own_keep HWf.out.r gf (fun b hb=>((own_ty HWf.out.r b hb).ne ht kP.n13))) hBs,fun x hx=>(HWf.out.c x hx).grown gf ((HWf.out.c x hx).off ht kP.n14),
         own_base (own_keep HWf.out.p gf (fun b hb=>((own_ty HWf.out.p b hb).ne ht kP.n15))) hBs,own_base (own_keep HWf.out.q gf (fun b hb=>((own_ty HWf.out.q b hb).ne ht kP.n16))) hBs⟩,
        ⟨HW1.out,hw2,HAct.out,hact32,hr12,HRu.out.1,hdl,Hhd.out,HPt.out,HPo.out⟩,HActF.out,HRu.out.2,only_below (HB0.out.trans (HWf.out.bel.mono HB0.out.size)) gf (by omega) (by omega)⟩
theorem smallPolicy_any (ni df er hh:Nat)(srs:List SRV)(SA:Option Addr)(sn sc:Nat)(dl:List Nat)(DA:Option Addr)(dn dc:Nat)(gl:List Nat)(GA:Option Addr)(gn gc:Nat)(pl:List Nat)(PA:Option Addr)(pn pc:Nat)(w:World)
  (hni:ni<256) (hdf:df<256) (her:er<256) (hhh:hh<65536) (hsn:srs.length=sn) (hdn:dl.length=dn) (hgn:gl.length=gn) (hpn:pl.length=pn)
  (hls:sn≤maxLen) (hld:dn≤maxLen) (hlg:gn≤maxLen) (hlp:pn≤maxLen) (hsok:∀r∈srs,r.ok) (hdok:∀x∈dl,x<256) (hgok:∀x∈gl,x<65536) (hpok:∀x∈pl,x<256)
  (hrs:Rd w 4 sn SA (srs.flatMap SRV.cells)) (hrc:∀r∈srs,Rd w 4 r.conds.length r.A (r.conds.flatMap SC.cells)) (hrd:Rd w 1 dn DA (u8s dl)) (hrg:Rd w 1 gn GA (u16s gl)) (hrp:Rd w 1 pn PA (u8s pl)) :
  Calls Tryz.prog 10 #[.agg #[.int .u8 ni,.int .u8 df,.int .u8 er,.slice SA sn sc,.int .u16 hh,.slice DA dn dc,.slice GA gn gc,.slice PA pn pc]] w (SmPost w):=
 (smallPolicyF_any ni df er hh srs SA sn sc dl DA dn dc gl GA gn gc pl PA pn pc w hni hdf her hhh hsn hdn hgn hpn hls hld hlg hlp hsok hdok hgok hpok hrs hrc hrd hrg hrp).mono fun _ _ ⟨nm,act,rs,RA,Rc,hd,pt,PA,Pc,po,QA,Qc,he,h1,h2,_,_,h3⟩=>⟨nm,act,rs,RA,Rc,hd,pt,PA,Pc,po,QA,Qc,he,h1,h2,h3⟩
end Go.Proofs.YtcnebdjhhfnmoaaGreatDoor
