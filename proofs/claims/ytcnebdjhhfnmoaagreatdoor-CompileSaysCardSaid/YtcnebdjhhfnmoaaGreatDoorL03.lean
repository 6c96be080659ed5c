/- Paths by lists alone: what a path is parted into, what may be a part; the document's way, byte by byte. -/
import Derived.Test.YtcnebdjhhfnmoaaGreatDoorL01
import Derived.Lib.SplitLaws
import Derived.Lib.IndexMore
import Derived.Test.YtcnebdjhhfnmoaaGreatDoorL02
import Derived.Laws.AppendOwnNone
import Derived.Deep.CutRange
import Derived.Deep.CutBlock
import Derived.StillTailTactics
import Derived.Outline
import Derived.Deep.RegionHeld3
import Derived.Deep.RegionLaw
import Derived.OwnWalk
import Derived.Deep.LoopGhost
import Derived.Laws.RangeAny
import Derived.Laws.OwnMore
import Derived.Deep.QuietTactic
import Derived.BigQuiet
import Derived.DeepKeys4
import Derived.Maps.OwnSet
import Derived.Maps.OwnOps
import Derived.Maps.Views
set_option maxHeartbeats 32000000
set_option maxRecDepth 100000
namespace Go.Proofs.YtcnebdjhhfnmoaaGreatDoor
def parts:Bs→List Bs
 | []=>[[]]
 | c::t=>if c=47 then []::parts t else match parts t with|h::r=>(c::h)::r|[]=>[[c]]
theorem pix_eq (c:UInt8)(t:Bs):Lib.index (c::t) [c]=0:=by simp [Lib.index,List.isPrefixOf]
theorem pix_ne (b c:UInt8)(t:Bs)(h:b≠c):Lib.index (b::t) [c]=if Lib.index t [c]==-1 then -1 else Lib.index t [c]+1:=by
 have hp:([c]:List UInt8).isPrefixOf (b::t)=false:=by simp [List.isPrefixOf,Ne.symm h]
 rw [Lib.index,hp];simp
theorem psplitK_ne (c d:UInt8)(t:Bs)(h:d≠c)(k:Nat):Lib.splitK [c] 0 k (d::t)=match Lib.splitK [c] 0 k t with|a::r=>(d::a)::r|[]=>[[d]]:=by
 cases k with
 | zero=>rfl
 | succ k=>
  unfold Lib.splitK
  rw [pix_ne d c t h]
  by_cases hm:Lib.index t [c]=-1
  ·simp [hm]
  ·have hge:=Lib.index_ge t [c]
   obtain ⟨j,hj⟩:∃j:Nat,Lib.index t [c]=j:=⟨(Lib.index t [c]).toNat,by omega⟩
   have h1:((j:Int)==-1)=false:=by rw [beq_eq_false_iff_ne];omega
   have h2:(((j:Int)+1)==-1)=false:=by rw [beq_eq_false_iff_ne];omega
   have h3:((j:Int)+1).toNat=j+1:=by omega
   rw [hj]
   simp [h1,h2,h3]
theorem splitK_parts:∀(s:Bs),Lib.splitK [47] 0 (Lib.count s [47]) s=parts s
 | []=>rfl
 | c::t=>by
  by_cases h:c=47
  ·subst h
   rw [Lib.count_cons_eq,Nat.add_comm,Lib.splitK,pix_eq,parts,if_pos rfl,←splitK_parts t]
   simp
  ·rw [Lib.count_cons_ne _ _ _ h,psplitK_ne 47 c t h,parts,if_neg h,splitK_parts t]
   cases parts t<;>rfl
theorem splitB_parts (s:ByteArray):(Lib.splitB ⟨#[47]⟩ 0 (Lib.countB s ⟨#[47]⟩) s).map (·.data.toList)=parts s.data.toList:=by
 rw [Lib.splitB_data]
 exact splitK_parts _
theorem parts_len (s:Bs):(parts s).length≤s.length+1:=by
 induction s with
 | nil=>simp [parts]
 | cons c t ih=>
  unfold parts
  split
  ·simp;omega
  ·split
   ·rename_i h r e;rw [e] at ih;simp at ih ⊢;omega
   ·simp
theorem parts_mem (s:Bs):∀l∈parts s,l.length≤s.length:=by
 induction s with
 | nil=>simp [parts]
 | cons c t ih=>
  unfold parts
  split
  ·intro l hl
   rcases List.mem_cons.1 hl with rfl|hl
   ·simp
   ·have:=ih l hl;simp;omega
  ·split
   ·rename_i h r e
    rw [e] at ih
    intro l hl
    rcases List.mem_cons.1 hl with rfl|hl
    ·have:=ih h (by simp);simp;omega
    ·have:=ih l (by simp [hl]);simp;omega
   ·intro l hl;simp at hl;subst hl;simp
def endB (t:Bs):Bool:=decide (t=[]) || (decide (t=[46]) || (decide (t=[46,46]) || decide (14<t.length)))
def noB (t:Bs):Bool:=endB t || !(t.all fun c=>prn c.toNat)
def pathB (s:Bs):Bool:=match s with|[]=>false|c::t=>decide (c=47)&&(decide (s.length≤120)&&(decide (t=[]) || !(parts t).any noB))
theorem noB_all {t:Bs}(he:endB t=false)(h:∀c∈t,prn c.toNat=true):noB t=false:=by
 unfold noB
 rw [he,Bool.false_or,Bool.not_eq_false']
 exact List.all_eq_true.2 h
theorem noB_bad {t:Bs}{c:UInt8}(hm:c∈t)(h:prn c.toNat=false):noB t=true:=by
 unfold noB
 rw [Bool.or_eq_true,Bool.not_eq_true',List.all_eq_false]
 exact .inr ⟨c,hm,by simp [h]⟩
theorem noB_end {t:Bs}(he:endB t=true):noB t=true:=by unfold noB;rw [he];rfl
end Go.Proofs.YtcnebdjhhfnmoaaGreatDoor
namespace Go.Proofs.YtcnebdjhhfnmoaaGreatDoor
open Go.RowKit
def firstE {α:Type}(f:Nat→α→Nat):Nat→List α→Nat
 | _,[]=>0
 | i,x::t=>if f i x≠0 then f i x else firstE f (i+1) t
theorem firstE_end {α:Type}(f:Nat→α→Nat)(l:List α){i:Nat}(h:l.length≤i)(k:Nat):firstE f k (l.drop i)=0:=by
 rw [List.drop_eq_nil_of_le h];rfl
theorem firstE_bad {α:Type}{f:Nat→α→Nat}{l:List α}{i:Nat}{x:α}(h:l[i]?=some x)(hb:f i x≠0):firstE f i (l.drop i)=f i x:=by
 obtain ⟨h1,h2⟩:=List.getElem?_eq_some_iff.1 h
 rw [List.drop_eq_getElem_cons h1,h2,firstE,if_pos hb]
theorem firstE_on {α:Type}{f:Nat→α→Nat}{l:List α}{i:Nat}{x:α}(h:l[i]?=some x)(hb:f i x=0):firstE f i (l.drop i)=firstE f (i+1) (l.drop (i+1)):=by
 obtain ⟨h1,h2⟩:=List.getElem?_eq_some_iff.1 h
 rw [List.drop_eq_getElem_cons h1,h2,firstE,if_neg (by simpa using hb)]
theorem firstE_zero {α:Type}(f:Nat→α→Nat):∀(l:List α) (k:Nat),(∀i x,l[i]?=some x→f (k+i) x=0)→firstE f k l=0
 | [],_,_=>rfl
 | x::t,k,h=>by
  have h0:=h 0 x rfl
  rw [firstE,if_neg (by simpa using h0)]
  exact firstE_zero f t (k+1) fun i y hy=>by have:=h (i+1) y (by simpa using hy);rwa [show k+(i+1)=k+1+i from by omega] at this
structure CondM where
 arg:Int
 op:Nat
 mask:Nat
 val:Nat
structure RuleM where
 num:Nat
 act:Nat
 conds:List CondM
structure PolM where
 name:Bs
 dflt:Nat
 rules:List RuleM
 handled:Nat
 paths:List (Bs×Nat)
 ports:List (Nat×Nat)
def CondM.ok (c:CondM):Prop:=-9223372036854775808≤c.arg∧c.arg≤9223372036854775807∧c.op<256∧c.mask<18446744073709551616∧c.val<18446744073709551616
def condE (c:CondM):Nat:=
 if c.arg<0∨5<c.arg then 204 else if c.op<1∨7<c.op then 210
 else if c.op≠7 then (if c.mask≠0 then 203 else 0)
 else if c.mask=0∨c.val&&&c.mask≠c.val then 204 else 0
def actB (a:Nat):Bool:=decide (a=2147483648∨a=2147221504∨a=2147418112∨(327680<a∧a≤331775))
def ruleE (r:RuleM):Nat:=
 if (byNum r.num).isSome=false then 38 else if actB r.act=false then 210 else if 6<r.conds.length then 205
 else firstE (fun _ c=>condE c) 0 r.conds
def hasS (a b:Nat):Bool:=decide (a&&&b=b)
def grantB (handled r kind:Nat):Bool:=decide (r≠0)&&(hasS handled r&&hasS kind r)
def pathE (l:List (Bs×Nat))(handled:Nat)(i:Nat)(x:Bs×Nat):Nat:=
 if pathB x.1=false then 203 else if grantB handled x.2 2047=false then 204
 else if ((l.take i).any fun y=>decide (y.1=x.1))=true then 206 else 0
def portE (l:List (Nat×Nat))(handled:Nat)(i:Nat)(x:Nat×Nat):Nat:=
 if grantB handled x.2 49152=false then 204
 else if ((l.take i).any fun y=>decide (y.1=x.1))=true then 206 else 0
open Classical in
noncomputable def wordB (s:Bs):Bool:=decide (wordP ⟨s.toArray⟩)
noncomputable def polE (p:PolM):Nat:=
 if wordB p.name=false then 202 else if actB p.dflt=false then 210
 else if 64<p.rules.length∨32<p.paths.length∨32<p.ports.length then 205
 else if p.handled&&&14336≠0 then 204
 else if firstE (fun _ r=>ruleE r) 0 p.rules≠0 then firstE (fun _ r=>ruleE r) 0 p.rules
 else if firstE (pathE p.paths p.handled) 0 p.paths≠0 then firstE (pathE p.paths p.handled) 0 p.paths
 else firstE (portE p.ports p.handled) 0 p.ports
def CondM.cells (c:CondM):List Value:=[.int .i64 c.arg,.int .u8 c.op,.int .u64 c.mask,.int .u64 c.val]
def CondM.rcells (c:CondM):List Value:=[.int .i64 c.arg,.int .i64 c.op,.int .u64 c.mask,.int .u64 c.val]
structure RuleV where
 m:RuleM
 A:Option Addr
 cap:Nat
def RuleV.cells (r:RuleV):List Value:=[.int .u32 r.m.num,.int .u32 r.m.act,.slice r.A r.m.conds.length r.cap]
def pathC (x:Bs×Nat):List Value:=[.string ⟨x.1.toArray⟩,.int .u16 x.2]
def portC (x:Nat×Nat):List Value:=[.int .u16 x.1,.int .u16 x.2]
def pathR (x:Bs×Nat):List Value:=[.string ⟨x.1.toArray⟩,.int .i64 x.2]
def portR (x:Nat×Nat):List Value:=[.int .i64 x.1,.int .i64 x.2]
structure PolV where
 name:Bs
 dflt:Nat
 rules:List RuleV
 RA:Option Addr
 Rc:Nat
 handled:Nat
 paths:List (Bs×Nat)
 PA:Option Addr
 Pc:Nat
 ports:List (Nat×Nat)
 QA:Option Addr
 Qc:Nat
def PolV.m (p:PolV):PolM:=⟨p.name,p.dflt,p.rules.map RuleV.m,p.handled,p.paths,p.ports⟩
def PolV.cells (p:PolV):List Value:=
 [.string ⟨p.name.toArray⟩,.int .u32 p.dflt,.slice p.RA p.rules.length p.Rc,.int .u16 p.handled,.slice p.PA p.paths.length p.Pc,.slice p.QA p.ports.length p.Qc]
def PolV.rcells (p:PolV):List Value:=
 [.string ⟨p.name.toArray⟩,.int .u32 p.dflt,.slice p.RA p.rules.length p.Rc,.int .i64 p.handled,.slice p.PA p.paths.length p.Pc,.slice p.QA p.ports.length p.Qc]
def RuleM.ok (r:RuleM):Prop:=r.num<4294967296∧r.act<4294967296∧r.conds.length≤maxLen∧∀c∈r.conds,c.ok
structure PolM.ok (p:PolM):Prop where
 name:p.name.length≤maxLen
 dflt:p.dflt<4294967296
 rules:p.rules.length≤maxLen
 each:∀r∈p.rules,r.ok
 handled:p.handled<65536
 paths:p.paths.length≤maxLen
 path:∀x∈p.paths,x.1.length≤maxLen∧x.2<65536
 ports:p.ports.length≤maxLen
 port:∀x∈p.ports,x.1<65536∧x.2<65536
def PolV.fit (p:PolV):Prop:=p.paths.length≤p.Pc∧p.ports.length≤p.Qc
structure Reads (w:World)(p:PolV):Prop where
 rules:Rd w 3 p.rules.length p.RA (p.rules.flatMap RuleV.cells)
 conds:∀r∈p.rules,Rd w 4 r.m.conds.length r.A (r.m.conds.flatMap CondM.cells)
 paths:Rd w 2 p.paths.length p.PA (p.paths.flatMap pathC)
 ports:Rd w 2 p.ports.length p.QA (p.ports.flatMap portC)
structure RReads (w:World)(p:PolV):Prop where
 rules:Rd w 3 p.rules.length p.RA (p.rules.flatMap RuleV.cells)
 conds:∀r∈p.rules,Rd w 4 r.m.conds.length r.A (r.m.conds.flatMap CondM.rcells)
 paths:Rd w 2 p.paths.length p.PA (p.paths.flatMap pathR)
 ports:Rd w 2 p.ports.length p.QA (p.ports.flatMap portR)
theorem Reads.below {w w':World}{p:PolV}(h:Reads w p)(hb:Below w.heap.size w w'):Reads w' p:=
 ⟨h.rules.below hb,fun r hr=>(h.conds r hr).below hb,h.paths.below hb,h.ports.below hb⟩
theorem RReads.below {w w':World}{p:PolV}(h:RReads w p)(hb:Below w.heap.size w w'):RReads w' p:=
 ⟨h.rules.below hb,fun r hr=>(h.conds r hr).below hb,h.paths.below hb,h.ports.below hb⟩
def Off (n:Nat)(A:Option Addr)(t:Nat):Prop:=n=0∨∀a,A=some a→a.block≠t
theorem Rd.grownO {w w':World}{z n t:Nat}{A:Option Addr}{xs:List Value}(h:Rd w z n A xs)(ho:Off n A t)(g:w.grownBy w' (some t)):Rd w' z n A xs:=
 ⟨h.len,by
  rcases ho with e|ho
  ·exact .inl e
  ·refine h.at_.imp id fun ⟨b,o,e,hl,hc⟩=>⟨b,o,e,Nat.lt_of_lt_of_le hl g.size,fun j u hu=>?_⟩
   rw [←hc j u hu]
   unfold World.cell?
   rw [g.block b hl (fun h=>ho _ e (Option.some.inj h))]⟩
structure OffP (p:PolV)(t:Nat):Prop where
 rules:Off p.rules.length p.RA t
 conds:∀r∈p.rules,Off r.m.conds.length r.A t
 paths:Off p.paths.length p.PA t
 ports:Off p.ports.length p.QA t
theorem Reads.grown {w w':World}{p:PolV}{t:Nat}(h:Reads w p)(ho:OffP p t)(g:w.grownBy w' (some t)):Reads w' p:=
 ⟨h.rules.grownO ho.rules g,fun r hr=>(h.conds r hr).grownO (ho.conds r hr) g,h.paths.grownO ho.paths g,h.ports.grownO ho.ports g⟩
theorem Rd.off {w:World}{z n t:Nat}{A:Option Addr}{xs:List Value}(h:Rd w z n A xs)(ht:w.heap.size≤t):Off n A t:=
 h.at_.imp id fun ⟨b,o,e,hl,_⟩ a ha he=>by cases e.symm.trans ha;simp at he;omega
theorem Reads.off {w:World}{p:PolV}{t:Nat}(h:Reads w p)(ht:w.heap.size≤t):OffP p t:=
 ⟨h.rules.off ht,fun r hr=>(h.conds r hr).off ht,h.paths.off ht,h.ports.off ht⟩
theorem flatz {α:Type}(f:α→List Value)(z:Nat)(hf:∀x,(f x).length=z)(hz:0<z):∀(l:List α) (k j:Nat),j<z→(l.flatMap f)[k*z+j]?=(l[k]?).bind (fun x=>(f x)[j]?)
 | [],k,j,_=>by simp
 | x::l,0,j,hj=>by
  rw [List.flatMap_cons,List.getElem?_append_left (by rw [hf];omega)];simp
 | x::l,k+1,j,hj=>by
  rw [List.flatMap_cons,List.getElem?_append_right (by rw [hf,Nat.succ_mul];omega),hf,show (k+1)*z+j-z=k*z+j from by rw [Nat.succ_mul];omega,flatz f z hf hz l k j hj]
  simp
theorem flatz_len {α:Type}(f:α→List Value)(z:Nat)(hf:∀x,(f x).length=z):∀(l:List α),(l.flatMap f).length=l.length*z
 | []=>by simp
 | x::l=>by rw [List.flatMap_cons,List.length_append,flatz_len f z hf l,hf,List.length_cons,Nat.succ_mul,Nat.add_comm]
theorem Rd.one {α:Type}{f:α→List Value}{w:World}{z n:Nat}{A:Option Addr}{l:List α}(h:Rd w z n A (l.flatMap f))(hf:∀x,(f x).length=z)(hz:0<z)(hn:0<n) :
  ∃b o,A=some ⟨b,o,none⟩∧b<w.heap.size∧∀k x,l[k]?=some x→∀j v,(f x)[j]?=some v→w.cell? ⟨b,o+(k*z+j),none⟩=some v:=by
 obtain ⟨b,o,e,hb,hc⟩:=h.pos hn
 refine ⟨b,o,e,hb,fun k x hx j v hv=>hc _ v ?_⟩
 have hj:j<z:=by rw [←hf x];exact (List.getElem?_eq_some_iff.1 hv).1
 rw [flatz f z hf hz l k j hj,hx]
 exact hv
end Go.Proofs.YtcnebdjhhfnmoaaGreatDoor
namespace Go.Proofs.YtcnebdjhhfnmoaaGreatDoor
open Go.RowKit Go.WideElems
theorem oneb (w:World)(o:Obj):Below w.heap.size w (w.alloc o):=(Below.refl _ _).alloc (Nat.le_refl _) _
theorem addr_at (b o j:Nat):(⟨b,o,none⟩:Addr).add j=⟨b,o+j,none⟩:=by unfold Addr.add;split<;>simp_all
def TyB (w:World)(b:Nat)(T:TypeId):Prop:=∃cur fz,w.heap[b]?=some (.cells cur T fz)
theorem TyB.lt {w:World}{b:Nat}{T:TypeId}(h:TyB w b T):b<w.heap.size:=by obtain ⟨_,_,h⟩:=h;exact (Array.getElem?_eq_some_iff.1 h).1
theorem TyB.ne {w:World}{b c:Nat}{T U:TypeId}(h:TyB w b T)(k:TyB w c U)(hn:T≠U):b≠c:=by
 rintro rfl
 obtain ⟨_,_,h⟩:=h
 obtain ⟨_,_,k⟩:=k
 rw [h] at k
 cases k
 exact hn rfl
theorem Bk.tyb {w:World}{g t:Nat}{l:List Value}(h:Bk w g t l):TyB w g t:=⟨_,_,h⟩
theorem TyB.below {w w':World}{b:Nat}{T:TypeId}(h:TyB w b T)(hb:Below w.heap.size w w'):TyB w' b T:=by
 obtain ⟨c,f,h⟩:=h
 exact ⟨c,f,(hb.block b (Array.getElem?_eq_some_iff.1 h).1).trans h⟩
structure TRd (w:World)(T:TypeId)(z n:Nat)(A:Option Addr)(xs:List Value):Prop where
 rd:Rd w z n A xs
 ty:n=0∨∃a,A=some a∧TyB w a.block T
theorem TRd.nil (w:World)(T:TypeId)(z:Nat):TRd w T z 0 none []:=⟨Rd.nil _ _ _,.inl rfl⟩
theorem TRd.below {w w':World}{T:TypeId}{z n:Nat}{A:Option Addr}{xs:List Value}(h:TRd w T z n A xs)(hb:Below w.heap.size w w'):TRd w' T z n A xs:=
 ⟨h.rd.below hb,h.ty.imp id fun ⟨a,e,k⟩=>⟨a,e,k.below hb⟩⟩
theorem TRd.grown {w w':World}{T:TypeId}{z n g:Nat}{A:Option Addr}{xs:List Value}(h:TRd w T z n A xs)(hg:w.grownBy w' (some g))(ho:Off n A g):TRd w' T z n A xs:=
 ⟨h.rd.grownO ho hg,by
  rcases h.ty with e|⟨a,e,c,f,k⟩
  ·exact .inl e
  ·rcases ho with e2|ho
   ·exact .inl e2
   ·exact .inr ⟨a,e,c,f,(hg.block _ (Array.getElem?_eq_some_iff.1 k).1 (fun e2=>ho a e (Option.some.inj e2))).trans k⟩⟩
theorem TRd.grownN {w w':World}{T:TypeId}{z n:Nat}{A:Option Addr}{xs:List Value}(h:TRd w T z n A xs)(hg:w.grownBy w' none):TRd w' T z n A xs:=
 h.below ⟨hg.os,hg.tape,hg.output,hg.size,fun i hi=>hg.block i hi (by simp)⟩
theorem TRd.off {w:World}{T U:TypeId}{z n g:Nat}{A:Option Addr}{xs:List Value}(h:TRd w T z n A xs)(k:TyB w g U)(hn:T≠U):Off n A g:=
 h.ty.imp id fun ⟨a,e,c⟩ b hb=>by cases e.symm.trans hb;exact c.ne k hn
theorem own_typed {w:World}{base:Nat}{e:TypeId}{z n:Nat}{v:Value}{xs:List Value}(h:w.ownsRow base e z v n xs) :
  ∃A c,v=.slice A n c∧n≤c∧TRd w e z n A xs∧(∀g,v.ownBlock=some g→TyB w g e)∧(A=none→c=0):=by
 rcases h.2 with ⟨rfl,rfl⟩|⟨g,cap,cur,rfl,hb,hh,hn,hm,hs,rfl⟩
 ·exact ⟨none,0,rfl,Nat.le_refl _,⟨⟨h.1,.inl rfl⟩,.inl rfl⟩,fun g hg=>(by cases hg),fun _=>rfl⟩
 ·refine ⟨_,cap,rfl,hn,⟨⟨h.1,.inr ⟨g,0,rfl,(Array.getElem?_eq_some_iff.1 hh).1,fun j u hu=>?_⟩⟩,.inr ⟨_,rfl,_,_,hh⟩⟩,fun g' hg'=>?_,fun e=>by cases e⟩
  ·have:=h.cells (g:=g) rfl j u hu
   rw [←this,addr_at]
  ·cases hg'
   exact ⟨_,_,hh⟩
theorem own_keep {w w':World}{base:Nat}{e:TypeId}{z n g:Nat}{v:Value}{xs:List Value}(h:w.ownsRow base e z v n xs)(hg:w.grownBy w' (some g))(hne:∀b,v.ownBlock=some b→b≠g):w'.ownsRow base e z v n xs:=by
 refine ⟨h.1,h.2.imp id ?_⟩
 rintro ⟨b,cap,cur,e,h1,h2,h3⟩
 refine ⟨b,cap,cur,e,h1,?_,h3⟩
 rw [hg.block b (Array.getElem?_eq_some_iff.1 h2).1 (fun q=>hne b (by subst e;rfl) (Option.some.inj q))]
 exact h2
theorem own_keepN {w w':World}{base:Nat}{e:TypeId}{z n:Nat}{v:Value}{xs:List Value}(h:w.ownsRow base e z v n xs)(hg:Below w.heap.size w w'):w'.ownsRow base e z v n xs:=own_below h hg
theorem append_one {w:World}{ops:Array Oper}{rest:List Oper}{o:Oper}{a:Act}{Q:Exit→Act→World→Prop}(hgd:o.guard=none)(s x:Operand)(t e:TypeId)
  (ho:o.op=.call { callee:=.builtin .append,args:=#[s,x],argTypes:=#[t,t] }) (zero:Value) (size bytes:Nat)
  (hinfo:(Tryz.prog.info? e).map (fun i=>(i.zero,i.size,i.bytes))=some (some zero,size,bytes)) (ht:Tryz.prog.underlying t=some (.slice e)) (hzs:zero.cells.size=size) (hsz:0<size) (hby:bytes≤64)
  (base:Nat) (v:Value) (n:Nat) (xs:List Value) (hs:a.eval s=v) (hown:w.ownsRow base e size v n xs) (g:Nat) (news:List Value) (hx:a.eval x=.slice (some ⟨g,0,none⟩) 1 1) (hl:news.length=size) (hB:Bk w g e news) (h1:∀u∈news,u.oneCell'=true) (hn:n≤100000) (hbase:base≤w.heap.size)
  (h:∀v' w',w'.ownsRow base e size v' (n+1) (xs++news)→w.grownBy w' v.ownBlock→(v'.ownBlock=v.ownBlock∨v'.ownBlock=some w.heap.size)→wpList Tryz.prog ops Q rest (a.put o.dst v') w'):wpList Tryz.prog ops Q (o::rest) a w:=by
 obtain ⟨i0,hi,hz0,hz1,hz2⟩:=info_parts hinfo
 refine wpList_append_own_at w hgd s x t ho base e i0 zero size bytes ht hi hz0 hz1 hz2 hzs hsz v n xs hs hown ⟨g,0,none⟩ 1 1 news hx (by omega) (fun j u hu=>by rw [addr_at,Nat.zero_add];exact hB.cell j hu) h1 (by unfold maxLen;omega) ?_ hbase (fun v' w' h1 h2 _ h3=>h v' w' h1 h2 h3)
 have:(n+1)*bytes≤100001*64:=Nat.mul_le_mul (by omega) hby
 omega
theorem TRd.appended {w w':World}{T U:TypeId}{z n:Nat}{A:Option Addr}{xs:List Value}{v:Value}(h:TRd w T z n A xs)(hg:w.grownBy w' v.ownBlock)(hv:∀g,v.ownBlock=some g→TyB w g U)(hn:T≠U):TRd w' T z n A xs:=by
 cases hb:v.ownBlock with
 | none=>rw [hb] at hg;exact h.grownN hg
 | some g=>rw [hb] at hg;exact h.grown hg (h.off (hv g hb) hn)
theorem own_appended {w w':World}{base:Nat}{e U:TypeId}{z n:Nat}{v u:Value}{xs:List Value}(h:w.ownsRow base e z u n xs)(hg:w.grownBy w' v.ownBlock)(hv:∀g,v.ownBlock=some g→TyB w g U)(hn:e≠U):w'.ownsRow base e z u n xs:=by
 cases hb:v.ownBlock with
 | none=>rw [hb] at hg;exact own_below h ⟨hg.os,hg.tape,hg.output,hg.size,fun i hi=>hg.block i hi (by simp)⟩
 | some g=>
  rw [hb] at hg
  obtain ⟨_,_,_,_,_,hty,_⟩:=own_typed h
  exact own_keep h hg (fun b hb2=>(hty b hb2).ne (hv g hb) hn)
theorem Bk.appended {w w':World}{g t:Nat}{l:List Value}{U:TypeId}{v:Value}(h:Bk w g t l)(hg:w.grownBy w' v.ownBlock)(hv:∀b,v.ownBlock=some b→TyB w b U)(hn:t≠U):Bk w' g t l:=by
 refine h.grown hg ?_
 cases hb:v.ownBlock with
 | none=>simp
 | some b=>intro e;exact (h.tyb.ne (hv b hb) hn) (Option.some.inj e)
theorem infoPC:(Tryz.prog.info? 89).map (fun i=>(i.zero,i.size,i.bytes))=some (some (.agg #[.int .i64 0,.int .u8 0,.int .u64 0,.int .u64 0]),4,32):=by kernel_rfl
theorem infoPR:(Tryz.prog.info? 86).map (fun i=>(i.zero,i.size,i.bytes))=some (some (.agg #[.int .u32 0,.int .u32 0,.slice none 0 0]),3,32):=by kernel_rfl
theorem infoPB:(Tryz.prog.info? 96).map (fun i=>(i.zero,i.size,i.bytes))=some (some (.agg #[.string ⟨#[]⟩,.int .u16 0]),2,24):=by kernel_rfl
theorem infoPP:(Tryz.prog.info? 132).map (fun i=>(i.zero,i.size,i.bytes))=some (some (.agg #[.int .u16 0,.int .u16 0]),2,4):=by kernel_rfl
end Go.Proofs.YtcnebdjhhfnmoaaGreatDoor
namespace Go.Proofs.YtcnebdjhhfnmoaaGreatDoor
open Go.RowKit
structure Kd where
 tP:TypeId
 tR:TypeId
 tC:TypeId
 tB:TypeId
 tQ:TypeId
 fC:CondM→List Value
 fB:Bs×Nat→List Value
 fQ:Nat×Nat→List Value
 hC:∀x,(fC x).length=4
 hB:∀x,(fB x).length=2
 hQ:∀x,(fQ x).length=2
 n1:tC≠tR
 n2:tB≠tR
 n3:tQ≠tR
 n4:tP≠tR
 n5:tC≠tB
 n6:tR≠tB
 n7:tQ≠tB
 n8:tP≠tB
 n9:tC≠tQ
 n10:tR≠tQ
 n11:tB≠tQ
 n12:tP≠tQ
 n13:tR≠tP
 n14:tC≠tP
 n15:tB≠tP
 n16:tQ≠tP
structure RB (K:Kd)(w wr:World)(B B1 B2:Nat)(z1:List Value)(v0 v1 v2 v3 v4 v5:Value)(rs:List RuleV)(pt:List (Bs×Nat))(po:List (Nat×Nat)):Prop where
 out:Bk wr B2 K.tP [v0,v1,v2,v3,v4,v5]
 res:Bk wr B1 K.tP z1
 r:wr.ownsRow B K.tR 3 v2 rs.length (rs.flatMap RuleV.cells)
 c:∀x∈rs,TRd wr K.tC 4 x.m.conds.length x.A (x.m.conds.flatMap K.fC)
 p:wr.ownsRow B K.tB 2 v4 pt.length (pt.flatMap K.fB)
 q:wr.ownsRow B K.tQ 2 v5 po.length (po.flatMap K.fQ)
 bel:Below w.heap.size w wr
 hB:w.heap.size≤B∧B≤wr.heap.size
 hB2:w.heap.size≤B2
 hB1:w.heap.size≤B1∧B1≠B2
section
variable {K:Kd} {w wr w':World} {B B1 B2:Nat} {z1:List Value} {v0 v1 v2 v3 v4 v5 v':Value} {rs:List RuleV} {pt:List (Bs×Nat)} {po:List (Nat×Nat)}
theorem RB.kept (h:RB K w wr B B1 B2 z1 v0 v1 v2 v3 v4 v5 rs pt po)(hb:Below wr.heap.size wr w'):RB K w w' B B1 B2 z1 v0 v1 v2 v3 v4 v5 rs pt po:=
 ⟨h.out.kept hb,h.res.kept hb,own_below h.r hb,fun x hx=>(h.c x hx).below hb,own_below h.p hb,own_below h.q hb,h.bel.trans (hb.mono h.bel.size),⟨h.hB.1,Nat.le_trans h.hB.2 hb.size⟩,h.hB2,h.hB1⟩
theorem bel_app (h:Below w.heap.size w wr)(hg:wr.grownBy w' v2.ownBlock)(hv:∀g,v2.ownBlock=some g→B≤g)(hB:w.heap.size≤B)(hB2:w.heap.size≤B2)(j:Nat)(v':Value):Below w.heap.size w (w'.setCell ⟨B2,j,none⟩ v'):=
 (h.grown hg h.size (fun g hg2=>Nat.le_trans hB (hv g hg2))).grown (only_set w' B2 j v') (Nat.le_trans h.size hg.size) (fun g hg2=>by cases hg2;exact hB2)
theorem RB.addRule (h:RB K w wr B B1 B2 z1 v0 v1 v2 v3 v4 v5 rs pt po)(x:RuleV)(hx:TRd wr K.tC 4 x.m.conds.length x.A (x.m.conds.flatMap K.fC))(hown:w'.ownsRow B K.tR 3 v' (rs.length+1) (rs.flatMap RuleV.cells++x.cells))(hg:wr.grownBy w' v2.ownBlock) :
  RB K w (w'.setCell ⟨B2,2,none⟩ v') B B1 B2 z1 v0 v1 v' v3 v4 v5 (rs++[x]) pt po:=by
 obtain ⟨_,_,_,_,_,hty,_⟩:=own_typed h.r
 obtain ⟨_,_,_,_,_,hty',_⟩:=own_typed hown
 have hl:=fun g hg2=>(h.r.lt g hg2).1
 have ho:=h.out.appended hg hty K.n4
 have hs:=only_set w' B2 2 v'
 have hcT:=ho.tyb
 refine ⟨ho.set 2 v',(h.res.appended hg hty K.n4).grown hs (fun e=>h.hB1.2 (Option.some.inj e)),?_,fun y hy=>?_,?_,?_,bel_app h.bel hg hl h.hB.1 h.hB2 2 v',⟨h.hB.1,Nat.le_trans h.hB.2 (Nat.le_trans hg.size hs.size)⟩,h.hB2,h.hB1⟩
 ·rw [List.length_append,List.flatMap_append]
  simp only [List.length_singleton,List.flatMap_cons,List.flatMap_nil,List.append_nil]
  exact own_keep hown hs (fun b hb=>(hty' b hb).ne hcT K.n13)
 ·rcases List.mem_append.1 hy with hy|hy
  ·have:=(h.c y hy).appended hg hty K.n1
   exact this.grown hs (this.off hcT K.n14)
  ·simp only [List.mem_singleton] at hy
   subst hy
   have:=hx.appended hg hty K.n1
   exact this.grown hs (this.off hcT K.n14)
 ·have:=own_appended h.p hg hty K.n2
  obtain ⟨_,_,_,_,_,ht,_⟩:=own_typed this
  exact own_keep this hs (fun b hb=>(ht b hb).ne hcT K.n15)
 ·have:=own_appended h.q hg hty K.n3
  obtain ⟨_,_,_,_,_,ht,_⟩:=own_typed this
  exact own_keep this hs (fun b hb=>(ht b hb).ne hcT K.n16)
theorem RB.addPath (h:RB K w wr B B1 B2 z1 v0 v1 v2 v3 v4 v5 rs pt po)(x:Bs×Nat)(hown:w'.ownsRow B K.tB 2 v' (pt.length+1) (pt.flatMap K.fB++K.fB x))(hg:wr.grownBy w' v4.ownBlock) :
  RB K w (w'.setCell ⟨B2,4,none⟩ v') B B1 B2 z1 v0 v1 v2 v3 v' v5 rs (pt++[x]) po:=by
 obtain ⟨_,_,_,_,_,hty,_⟩:=own_typed h.p
 obtain ⟨_,_,_,_,_,hty',_⟩:=own_typed hown
 have hl:=fun g hg2=>(h.p.lt g hg2).1
 have ho:=h.out.appended hg hty K.n8
 have hs:=only_set w' B2 4 v'
 have hcT:=ho.tyb
 refine ⟨ho.set 4 v',(h.res.appended hg hty K.n8).grown hs (fun e=>h.hB1.2 (Option.some.inj e)),?_,fun y hy=>?_,?_,?_,bel_app h.bel hg hl h.hB.1 h.hB2 4 v',⟨h.hB.1,Nat.le_trans h.hB.2 (Nat.le_trans hg.size hs.size)⟩,h.hB2,h.hB1⟩
 ·have:=own_appended h.r hg hty K.n6
  obtain ⟨_,_,_,_,_,ht,_⟩:=own_typed this
  exact own_keep this hs (fun b hb=>(ht b hb).ne hcT K.n13)
 ·have:=(h.c y hy).appended hg hty K.n5
  exact this.grown hs (this.off hcT K.n14)
 ·rw [List.length_append,List.flatMap_append]
  simp only [List.length_singleton,List.flatMap_cons,List.flatMap_nil,List.append_nil]
  exact own_keep hown hs (fun b hb=>(hty' b hb).ne hcT K.n15)
 ·have:=own_appended h.q hg hty K.n7
  obtain ⟨_,_,_,_,_,ht,_⟩:=own_typed this
  exact own_keep this hs (fun b hb=>(ht b hb).ne hcT K.n16)
theorem RB.addPort (h:RB K w wr B B1 B2 z1 v0 v1 v2 v3 v4 v5 rs pt po)(x:Nat×Nat)(hown:w'.ownsRow B K.tQ 2 v' (po.length+1) (po.flatMap K.fQ++K.fQ x))(hg:wr.grownBy w' v5.ownBlock) :
  RB K w (w'.setCell ⟨B2,5,none⟩ v') B B1 B2 z1 v0 v1 v2 v3 v4 v' rs pt (po++[x]):=by
 obtain ⟨_,_,_,_,_,hty,_⟩:=own_typed h.q
 obtain ⟨_,_,_,_,_,hty',_⟩:=own_typed hown
 have hl:=fun g hg2=>(h.q.lt g hg2).1
 have ho:=h.out.appended hg hty K.n12
 have hs:=only_set w' B2 5 v'
 have hcT:=ho.tyb
 refine ⟨ho.set 5 v',(h.res.appended hg hty K.n12).grown hs (fun e=>h.hB1.2 (Option.some.inj e)),?_,fun y hy=>?_,?_,?_,bel_app h.bel hg hl h.hB.1 h.hB2 5 v',⟨h.hB.1,Nat.le_trans h.hB.2 (Nat.le_trans hg.size hs.size)⟩,h.hB2,h.hB1⟩
 ·have:=own_appended h.r hg hty K.n10
  obtain ⟨_,_,_,_,_,ht,_⟩:=own_typed this
  exact own_keep this hs (fun b hb=>(ht b hb).ne hcT K.n13)
 ·have:=(h.c y hy).appended hg hty K.n9
  exact this.grown hs (this.off hcT K.n14)
 ·have:=own_appended h.p hg hty K.n11
  obtain ⟨_,_,_,_,_,ht,_⟩:=own_typed this
  exact own_keep this hs (fun b hb=>(ht b hb).ne hcT K.n15)
 ·rw [List.length_append,List.flatMap_append]
  simp only [List.length_singleton,List.flatMap_cons,List.flatMap_nil,List.append_nil]
  exact own_keep hown hs (fun b hb=>(hty' b hb).ne hcT K.n16)
end
def kP:Kd:=⟨30,86,89,96,132,CondM.cells,pathC,portC,fun _=>rfl,fun _=>rfl,fun _=>rfl,by decide,by decide,by decide,by decide,by decide,by decide,by decide,by decide,by decide,by decide,by decide,by decide,by decide,by decide,by decide,by decide⟩
structure XB (K:Kd)(ws wx:World)(xb:Nat)(a0 a1 cv:Value)(l:List CondM):Prop where
 x:Bk wx xb K.tR [a0,a1,cv]
 own:wx.ownsRow ws.heap.size K.tC 4 cv l.length (l.flatMap K.fC)
 grow:ws.grownBy wx (some xb)
 lt:xb<ws.heap.size
section
variable {K:Kd} {ws wx w':World} {xb:Nat} {a0 a1 cv v':Value} {l:List CondM}
theorem XB.kept (h:XB K ws wx xb a0 a1 cv l)(hb:Below wx.heap.size wx w'):XB K ws w' xb a0 a1 cv l:=
 ⟨h.x.kept hb,own_below h.own hb,grown_trans h.grow ⟨hb.os,hb.tape,hb.output,hb.size,fun i hi _=>hb.block i hi⟩ (fun k (hk:none=some k)=>by cases hk),h.lt⟩
theorem XB.add (h:XB K ws wx xb a0 a1 cv l)(c:CondM)(hown:w'.ownsRow ws.heap.size K.tC 4 v' (l.length+1) (l.flatMap K.fC++K.fC c))(hg:wx.grownBy w' cv.ownBlock):XB K ws (w'.setCell ⟨xb,2,none⟩ v') xb a0 a1 v' (l++[c]):=by
 obtain ⟨_,_,_,_,_,hty,_⟩:=own_typed h.own
 obtain ⟨_,_,_,_,_,hty',_⟩:=own_typed hown
 have ho:=h.x.appended hg hty K.n1.symm
 have hs:=only_set w' xb 2 v'
 refine ⟨ho.set 2 v',?_,?_,h.lt⟩
 ·rw [List.length_append,List.flatMap_append]
  simp only [List.length_singleton,List.flatMap_cons,List.flatMap_nil,List.append_nil]
  exact own_keep hown hs (fun b hb=>(hty' b hb).ne ho.tyb K.n1)
 ·exact grown_trans (grown_trans h.grow hg (fun k hk=>.inr (h.own.lt k hk).1)) hs (fun k hk=>.inl hk)
theorem XB.bel {w0:World}(h:XB K ws wx xb a0 a1 cv l)(hw:Below w0.heap.size w0 ws)(hx:w0.heap.size≤xb):Below w0.heap.size w0 wx:=hw.grown h.grow hw.size (fun g hg=>by cases hg;exact hx)
end
end Go.Proofs.YtcnebdjhhfnmoaaGreatDoor
/- What jumps lean on. -/
namespace Go.Proofs.YtcnebdjhhfnmoaaGreatDoor.Ju
structure PtM where
 kd:Nat
 tQ:Int
 el:Int
 i:Ins
def PtM.cells (p:PtM):List Value:=[.int .u8 p.kd,.int .i64 p.tQ,.int .i64 p.el,.int .u16 p.i.c,.int .u8 p.i.t,.int .u8 p.i.f,.int .u32 p.i.k]
structure PtM.ok (p:PtM):Prop where
 kd:p.kd<256
 to1:-9223372036854775808≤p.tQ
 to2:p.tQ≤9223372036854775807
 el1:-9223372036854775808≤p.el
 el2:p.el≤9223372036854775807
 i:p.i.ok
def lk {β:Type}(n:Int)(b:List (Int×β)):Option β:=(b.find? fun e=>decide (e.1=n)).map Prod.snd
theorem lk_cons {β:Type}(n m:Int)(v:β)(b:List (Int×β)):lk n ((m,v)::b)=if m=n then some v else lk n b:=by
 unfold lk
 rw [List.find?_cons]
 by_cases h:m=n<;>simp [h]
structure CdM where
 ins:List Ins
 bh:List (Int×Nat)
def skipI (n:Nat):Ins:=⟨5,0,0,n⟩
def reachF (l:List Ins)(b:Nat):Nat×List Ins:=if l.length-b≤253 then (l.length-b,l) else (0,skipI (l.length-b)::l)
def cmpF (l:List Ins)(i:Ins)(bt bf:Nat):List Ins:=
 ⟨i.c,(reachF (reachF l bf).2 bt).1,(reachF l bf).1+((reachF (reachF l bf).2 bt).2.length-(reachF l bf).2.length),i.k⟩::(reachF (reachF l bf).2 bt).2
def layF (p:PtM)(c:CdM):Nat×CdM:=
 if p.kd=1 then (match lk p.tQ c.bh with|some _=>(206,c)|none=>(0,⟨c.ins,(p.tQ,c.ins.length)::c.bh⟩))
 else if p.kd=2 then (if p.i.c%8=5 then (210,c) else (0,⟨p.i::c.ins,c.bh⟩))
 else if p.kd=3 then (if p.i.c%8≠5∨p.i.c=5 then (210,c) else match lk p.tQ c.bh,lk p.el c.bh with
  | some bt,some bf=>(0,⟨cmpF c.ins p.i bt bf,c.bh⟩)
  | _,_=>(207,c))
 else if p.kd=4 then (match lk p.tQ c.bh with|some b=>(0,⟨skipI (c.ins.length-b)::c.ins,c.bh⟩)|none=>(207,c))
 else (210,c)
def stepF (p:PtM)(r:Nat×CdM):Nat×CdM:=
 if r.1≠0 then r else if (layF p r.2).1≠0 then layF p r.2 else if 4096<(layF p r.2).2.ins.length then (205,(layF p r.2).2) else layF p r.2
def makeF (l:List PtM):Nat×CdM:=l.foldr stepF (0,⟨[],[]⟩)
theorem makeF_cons (p:PtM)(t:List PtM):makeF (p::t)=stepF p (makeF t):=rfl
theorem makeF_bad {l:List PtM}:∀{k:Nat},(makeF (l.drop k)).1≠0→makeF l=makeF (l.drop k):=by
 induction l with
 | nil=>intro k h;simp
 | cons p t ih=>
  intro k h
  cases k with
  | zero=>rfl
  | succ k=>
   rw [List.drop_succ_cons] at h ⊢
   have e:=ih h
   rw [makeF_cons,e]
   unfold stepF
   rw [if_pos h]
def Bnd (c:CdM):Prop:=∀n v,lk n c.bh=some v→v≤c.ins.length
theorem reach_len (l:List Ins)(b:Nat):(reachF l b).2.length≤l.length+1∧l.length≤(reachF l b).2.length∧(reachF l b).1≤253:=by
 unfold reachF;split<;>simp<;>omega
theorem lay_bnd {p:PtM}{c:CdM}(h:Bnd c):Bnd (layF p c).2:=by
 unfold layF
 split
 ·split
  ·exact h
  ·intro n v hv
   rw [lk_cons] at hv
   split at hv
   ·cases hv;exact Nat.le_refl _
   ·exact h n v hv
 ·split
  ·split
   ·exact h
   ·intro n v hv;have:=h n v hv;simp only [List.length_cons];omega
  ·split
   ·split
    ·exact h
    ·split
     ·intro n v hv
      have:=h n v hv
      rename_i bt bf _ _
      have h1:=reach_len c.ins bf
      have h2:=reach_len (reachF c.ins bf).2 bt
      simp only [cmpF,List.length_cons];omega
     ·exact h
   ·split
    ·split
     ·intro n v hv;have:=h n v hv;simp only [List.length_cons];omega
     ·exact h
    ·exact h
theorem step_bnd {p:PtM}{r:Nat×CdM}(h:Bnd r.2):Bnd (stepF p r).2:=by
 unfold stepF
 split
 ·exact h
 ·split
  ·exact lay_bnd h
  ·split<;>exact lay_bnd h
theorem make_bnd:∀(l:List PtM),Bnd (makeF l).2
 | []=>fun n v h=>by simp [makeF,lk] at h
 | _::t=>step_bnd (make_bnd t)
theorem make_len:∀(l:List PtM),(makeF l).1=0→(makeF l).2.ins.length≤4096
 | [],_=>by simp [makeF]
 | p::t,h=>by
  rw [makeF_cons] at h ⊢
  unfold stepF at h ⊢
  split at h
  ·rename_i h2;exact absurd h h2
  ·rename_i h0
   rw [if_neg h0]
   split at h
   ·rename_i h2;exact absurd h h2
   ·rename_i h1
    rw [if_neg h1]
    split at h
    ·cases h
    ·rename_i h3;rw [if_neg h3];omega
end Go.Proofs.YtcnebdjhhfnmoaaGreatDoor.Ju
namespace Go.Proofs.YtcnebdjhhfnmoaaGreatDoor.Ju
open Go.RowKit Go.Maps Go.WideMaps Go.WideElems Go.ChangeMaps
def mD (o:List (Int×Int)):DataW Unit:=o.foldr (fun p d=>d.put (.int .i64 p.1) (.lit (.int .i64 p.2))) (.map [])
theorem mD_cons (n v:Int)(o:List (Int×Int)):mD ((n,v)::o)=(mD o).put (.int .i64 n) (.lit (.int .i64 v)):=rfl
theorem mD_map:∀o:List (Int×Int),IsMap (mD o)
 | []=>⟨[],rfl⟩
 | _::o=>(mD_map o).put _ _
theorem key_ne {n m:Int}(h:m≠n):Lit.int .i64 n≠Lit.int .i64 m:=fun e=>by injection e with _ e;exact h e.symm
theorem mD_has:∀(o:List (Int×Int))(n:Int),has (mD o) (.int .i64 n)=(lk n o).isSome
 | [],n=>rfl
 | (m,v)::o,n=>by
  rw [mD_cons,lk_cons]
  by_cases h:m=n
  ·subst h;rw [if_pos rfl,has_put_same (mD_map _) (show WideAt.IsKeyLit (Lit.int .i64 m) from trivial)];rfl
  ·rw [if_neg h,has_put_other (key_ne h)];exact mD_has o n
theorem mD_at:∀(o:List (Int×Int))(n:Int)(z:DataW Unit),(mD o).atKey (.int .i64 n) z=match lk n o with|some v=>.lit (.int .i64 v)|none=>z
 | [],n,z=>rfl
 | (m,v)::o,n,z=>by
  rw [mD_cons,lk_cons]
  by_cases h:m=n
  ·subst h;rw [if_pos rfl,atKey_put_same (mD_map _) (show WideAt.IsKeyLit (Lit.int .i64 m) from trivial)]
  ·rw [if_neg h,atKey_put_other (key_ne h)];exact mD_at o n z
def cnt:List (Int×Int)→Nat
 | []=>0
 | (n,_)::o=>if (lk n o).isSome=true then cnt o else cnt o+1
theorem cnt_le:∀o:List (Int×Int),cnt o≤o.length
 | []=>Nat.le_refl _
 | (n,_)::o=>by unfold cnt;have:=cnt_le o;split<;>simp<;>omega
theorem wfI {a:Int}(h1:-9223372036854775808≤a)(h2:a≤9223372036854775807):(Lit.int .i64 a).wf=true:=by
 show (decide ((-9223372036854775808:Int)≤a)&&decide (a≤(9223372036854775807:Int)))=true
 rw [decide_eq_true (by omega),decide_eq_true (by omega)];rfl
theorem nameKeyed:Keyed Tryz.prog 74:=int_keyed Tryz.underlying74
theorem om_lt {w:World}{P:Program}{T:TypeId}{R:Value→Option (DataW Unit×List MemPlace)}{b n:Nat}{D:DataW Unit}(h:w.ownsMap P T R b n D):b<w.heap.size:=by obtain ⟨es,c,h1,_⟩:=h;exact (Array.getElem?_eq_some_iff.1 h1).1
theorem om_block {w w':World}{P:Program}{T:TypeId}{R:Value→Option (DataW Unit×List MemPlace)}{b n:Nat}{D:DataW Unit}(h:w.ownsMap P T R b n D)(hb:w'.heap[b]?=w.heap[b]?):w'.ownsMap P T R b n D:=by obtain ⟨es,c,h1,h2⟩:=h;exact ⟨es,c,hb.trans h1,h2⟩
def NMap (w:World)(e:TypeId)(m:Nat)(o:List (Int×Int)):Prop:=w.ownsMap Tryz.prog 74 (plainElem Tryz.prog e) m o.length (mD o)
theorem NMap.lt {w:World}{e:TypeId}{m:Nat}{o:List (Int×Int)}(h:NMap w e m o):m<w.heap.size:=om_lt h
theorem NMap.block {w w':World}{e:TypeId}{m:Nat}{o:List (Int×Int)}(h:NMap w e m o)(hb:w'.heap[m]?=w.heap[m]?):NMap w' e m o:=om_block h hb
theorem NMap.below {w w':World}{e:TypeId}{m:Nat}{o:List (Int×Int)}(h:NMap w e m o)(hb:Below w.heap.size w w'):NMap w' e m o:=om_block h (hb.block _ h.lt)
theorem NMap.grown {w w':World}{e:TypeId}{m:Nat}{o:List (Int×Int)}{r:Option Nat}(h:NMap w e m o)(hb:w.grownBy w' r)(hr:some m≠r):NMap w' e m o:=om_block h (hb.block _ h.lt hr)
theorem NMap.made (w:World)(e:TypeId):NMap (w.alloc (.map #[] 0)) e w.heap.size []:=World.ownsMap_made (H:=Unit) w Tryz.prog 74 (plainElem Tryz.prog e)
theorem NMap.put {w:World}{e:TypeId}{m:Nat}{o:List (Int×Int)}{n v:Int}(h:w.ownsMap Tryz.prog 74 (plainElem Tryz.prog e) m (o.length+1) ((mD o).put (.int .i64 n) (.lit (.int .i64 v)))):NMap w e m ((n,v)::o):=h
/-! Parts in memory. -/
theorem infoPart:(Tryz.prog.info? 78).map (fun i=>(i.zero,i.size,i.bytes))=some (some (.agg #[.int .u8 0,.int .i64 0,.int .i64 0,.int .u16 0,.int .u8 0,.int .u8 0,.int .u32 0]),7,32):=by kernel_rfl
theorem pt_len (p:PtM):p.cells.length=7:=rfl
theorem pt_one (p:PtM):∀u∈p.cells,u.oneCell'=true:=fun u hu=>by
 simp only [PtM.cells,List.mem_cons,List.not_mem_nil,or_false] at hu
 rcases hu with rfl|rfl|rfl|rfl|rfl|rfl|rfl<;>rfl
theorem seven_cells {w:World}{b o k:Nat}{l:List PtM}{x:PtM}(hc:∀k x,l[k]?=some x→∀j v,(PtM.cells x)[j]?=some v→w.cell? ⟨b,o+(k*7+j),none⟩=some v)(h:l[k]?=some x) :
  w.cell? ⟨b,o+k*7,none⟩=some (.int .u8 x.kd)∧w.cell? ⟨b,o+k*7+1,none⟩=some (.int .i64 x.tQ)∧w.cell? ⟨b,o+k*7+2,none⟩=some (.int .i64 x.el)∧w.cell? ⟨b,o+k*7+3,none⟩=some (.int .u16 x.i.c)∧w.cell? ⟨b,o+k*7+4,none⟩=some (.int .u8 x.i.t)∧w.cell? ⟨b,o+k*7+5,none⟩=some (.int .u8 x.i.f)∧w.cell? ⟨b,o+k*7+6,none⟩=some (.int .u32 x.i.k):=by
 have hj:=fun j v hv=>hc k x h j v hv
 simp only [←Nat.add_assoc] at hj
 exact ⟨hj 0 _ rfl,hj 1 _ rfl,hj 2 _ rfl,hj 3 _ rfl,hj 4 _ rfl,hj 5 _ rfl,hj 6 _ rfl⟩
theorem op_append {o:Oper}{a:Act}{w:World}{K:Act→World→Prop}{Q:Exit→Act→World→Prop}(s x:Operand)(t:TypeId)(ho:o.op=.call { callee:=.builtin .append,args:=#[s,x],argTypes:=#[t,t] })
  (v y v':Value) (w':World) (hs:a.eval s=v) (hx:a.eval x=y) (hr:(Builtin.append_ #[t,t] o.type #[v,y]).run Tryz.prog w=.ok v' w') (h:K (a.put o.dst v') w'):Oper.wp Tryz.prog o a w K Q:=by
 unfold Oper.wp execOp
 simp only [ho,resolve,invoke,builtin,Sem.run_bind,Sem.run_pure,Result.andThen_ok,List.map_toArray,List.map_cons,List.map_nil,hs,hx,hr]
 exact h
end Go.Proofs.YtcnebdjhhfnmoaaGreatDoor.Ju
