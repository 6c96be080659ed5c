/- What the laws of stage 15 lean on: two policies beside a table. -/
import Derived.Test.YtcnebdjhhfnmoaaGreatDoorL39
import Derived.Test.YtcnebdjhhfnmoaaGreatDoorL41
import Derived.Test.YtcnebdjhhfnmoaaGreatDoorL36
import Derived.Test.YtcnebdjhhfnmoaaGreatDoorL35
import Derived.Test.YtcnebdjhhfnmoaaGreatDoorL38
import Derived.Deep.CutBlock
import Derived.Deep.CutRange
set_option maxHeartbeats 32000000
set_option maxRecDepth 100000
namespace Go.Proofs.YtcnebdjhhfnmoaaGreatDoor.Co
open Go.RowKit Go.WideElems Go.Proofs.YtcnebdjhhfnmoaaGreatDoor.Ju Go.Proofs.YtcnebdjhhfnmoaaGreatDoor.Me Go.Proofs.YtcnebdjhhfnmoaaGreatDoor.Ir Go.Proofs.YtcnebdjhhfnmoaaGreatDoor.Lo
theorem run_none_cC {w:World}(base:Nat)(t ty e:TypeId)(i:TypeInfo)(size:Nat)(ht:Tryz.prog.underlying t=some (.slice e))(hi:Tryz.prog.info? e=some i)(c:Nat)
  (v:Value) (n:Nat) (xs:List Value) (hown:w.ownsRow base e size v n xs):(Builtin.append_ #[t,t] ty #[v,.slice none 0 c]).run Tryz.prog w=.ok v w:=by
 rcases hown.2 with ⟨rfl,rfl⟩|⟨g,cap,cur,rfl,_,_,hnc,_⟩
 ·simp [Builtin.append_,run_underlying ht,sizeOf,typeInfo,hi,Builtin.lenOf,Builtin.firstCells]
 ·simp [Builtin.append_,run_underlying ht,sizeOf,typeInfo,hi,Builtin.lenOf,Builtin.firstCells,hnc,storeCells]
theorem run_listC {w:World}(t ty e:TypeId)(zero:Value)(size bytes:Nat)(hinfo:(Tryz.prog.info? e).map (fun i=>(i.zero,i.size,i.bytes))=some (some zero,size,bytes))(ht:Tryz.prog.underlying t=some (.slice e))(hzs:zero.cells.size=size)(hsz:0<size)(hby:bytes≤128)
  (base:Nat) (v:Value) (n:Nat) (xs:List Value) (hown:w.ownsRow base e size v n xs) (A:Option Addr) (m c:Nat) (news:List Value) (hR:Rd w size m A news) (h1:∀u∈news,u.oneCell'=true) (hn:n+m≤100000) (hbase:base≤w.heap.size) :
  ∃v' w',(Builtin.append_ #[t,t] ty #[v,.slice A m c]).run Tryz.prog w=.ok v' w'∧w'.ownsRow base e size v' (n+m) (xs++news)∧w.grownBy w' v.ownBlock∧(v'.ownBlock=v.ownBlock∨v'.ownBlock=some w.heap.size):=by
 obtain ⟨i0,hi,hz0,hz1,hz2⟩:=info_parts hinfo
 cases A with
 | none=>
  obtain rfl:m=0:=by
   rcases Nat.eq_zero_or_pos m with h|h
   ·exact h
   ·obtain ⟨b,o,e,_⟩:=hR.pos h
    cases e
  have hnil:news=[]:=by have:=hR.len;simp at this;exact this
  subst hnil
  exact ⟨v,w,run_none_cC base t ty e i0 size ht hi c v n xs hown,by simpa using hown,⟨rfl,rfl,rfl,Nat.le_refl _,fun _ _ _=>rfl⟩,.inl rfl⟩
 | some ad=>
  obtain ⟨v',w',h2,h3,h4,_,h5⟩:=run_append_own_at (P:=Tryz.prog) w base t ty e i0 zero size bytes ht hi hz0 hz1 hz2 hzs hsz v n xs hown ad m c news hR.len (fun j u hu=>by
   have hlt:=(List.getElem?_eq_some_iff.1 hu).1
   rw [hR.len] at hlt
   obtain ⟨b,o,e,hb,hc⟩:=hR.pos (by cases m with|zero=>simp at hlt|succ m=>omega)
   cases e
   rw [addr_at];exact hc j u hu) h1 (by unfold maxLen;omega) (by have:(n+m)*bytes≤100000*128:=Nat.mul_le_mul hn hby;omega) hbase
  exact ⟨v',w',h2,h3,h4,h5⟩
structure PolX (w:World)(p:PolV)(tb:Nat):Prop where
 rd:Reads w p
 off:OffP p tb
 q:QOk p
 nm:p.name.length≤maxLen
 pth:∀x∈p.paths,x.1.length≤maxLen
 cP:p.paths.length≤p.Pc
 cQ:p.ports.length≤p.Qc
theorem PolX.grown {w w':World}{p:PolV}{tb:Nat}(h:PolX w p tb)(g:w.grownBy w' (some tb)):PolX w' p tb:=⟨h.rd.grown h.off g,h.off,h.q,h.nm,h.pth,h.cP,h.cQ⟩
theorem PolX.below {w w':World}{p:PolV}{tb:Nat}(h:PolX w p tb)(g:Below w.heap.size w w'):PolX w' p tb:=⟨h.rd.below g,h.off,h.q,h.nm,h.pth,h.cP,h.cQ⟩
theorem PolX.g {w:World}{p:PolV}{tb nR nP nQ:Nat}(h:PolX w p tb)(e1:p.rules.length=nR)(e2:p.paths.length=nP)(e3:p.ports.length=nQ):PolG w p nR nP nQ tb:=⟨h.rd,h.off,h.q,h.nm,h.pth,h.cP,h.cQ,e1,e2,e3⟩
theorem off_old {w:World}{p:PolV}{tb:Nat}(h:Reads w p)(ht:w.heap.size≤tb):OffP p tb:=⟨h.rules.off ht,fun r hr=>(h.conds r hr).off ht,h.paths.off ht,h.ports.off ht⟩
theorem polX_in {w W:World}{p:PolV}{tb:Nat}(h:PolIn w p)(q:QOk p)(ht:w.heap.size≤tb)(hb:Below w.heap.size w W):PolX W p tb:=
 ⟨h.g12.below hb,off_old h.g12 ht,q,h.g1,fun x hx=>(h.g10 x hx).1,h.g7,h.g8⟩
theorem own_trdC {w:World}{B:Nat}{e:TypeId}{z n c:Nat}{A:Option Addr}{xs:List Value}(h:w.ownsRow B e z (.slice A n c) n xs):TRd w e z n A xs:=by
 obtain ⟨A',c',e',_,ht,_,_⟩:=own_typed h
 cases e'
 exact ht
theorem own_cap {w:World}{B:Nat}{e:TypeId}{z n c:Nat}{A:Option Addr}{xs:List Value}(h:w.ownsRow B e z (.slice A n c) n xs):n≤c:=by
 rcases h.2 with ⟨h1,h2⟩|⟨_,_,_,h1,_,_,h2,_⟩
 ·omega
 ·simp only [Value.slice.injEq] at h1
  obtain ⟨_,_,rfl⟩:=h1
  omega
theorem polX_small {w:World}{B tb m:Nat}{nm:Bs}{act:Nat}{rs:List RuleV}{RA:Option Addr}{Rc hd:Nat}{pt:List (Bs×Nat)}{PA:Option Addr}{Pc:Nat}{po:List (Nat×Nat)}{QA:Option Addr}{Qc:Nat}
  (h:Rows4 w B rs RA Rc pt PA Pc po QA Qc) (ok:SmOk nm act rs hd pt po) (hT:TS w tb m):PolX w ⟨nm,act,rs,RA,Rc,hd,pt,PA,Pc,po,QA,Qc⟩ tb:=by
 have hty:TyB w tb 114:=by
  obtain ⟨_,_,_,h⟩:=hT
  rcases h with ⟨_,h⟩|⟨_,_,_,_,h,_⟩
  ·exact ⟨_,_,h⟩
  ·exact ⟨_,_,h⟩
 refine ⟨small_reads h,⟨(own_trdC h.r).off hty (by decide),fun r hr=>(h.c r hr).off hty (by decide),(own_trdC h.p).off hty (by decide),(own_trdC h.q).off hty (by decide)⟩,q_small ok,?_,?_,own_cap h.p,own_cap h.q⟩
 ·show nm.length≤maxLen;have:=ok.short;unfold maxLen;omega
 ·intro x hx
  have:=dirs6_ok x.1 (ok.path.each x hx).1
  unfold maxLen;omega
theorem polCheckG (p:PolV)(nR nP nQ tb m:Nat)(w:World)(hg:PolG w p nR nP nQ tb)(hT:TS w tb m)(hm:m≤900000)(hE:Env w) :
  Calls Tryz.prog 14 #[.agg #[.string ⟨p.name.toArray⟩,.int .u32 p.dflt,.slice p.RA nR p.Rc,.int .u16 p.handled,.slice p.PA nP p.Pc,.slice p.QA nQ p.Qc],.pointer (some ⟨tb,0,none⟩)] w (RuPost (polE (polM p)) tb (m+64) w):=
 polCheck_any p.name p.dflt p.rules p.RA nR p.Rc p.handled p.paths p.PA nP p.Pc p.ports p.QA nQ p.Qc tb m w hg.nm hg.q.d hg.eR hg.eP hg.eQ (by have:=hg.q.r;have:=hg.eR;unfold maxLen;omega) (by have:=hg.q.pt;have:=hg.eP;unfold maxLen;omega) (by have:=hg.q.po;have:=hg.eQ;unfold maxLen;omega) hg.q.ok hg.q.hd (fun x hx=>⟨hg.pth x hx,hg.q.pa x hx⟩) hg.q.qa (by have:=hg.cP;have:=hg.eP;omega) (by have:=hg.cQ;have:=hg.eQ;omega) hg.rd hg.off hT hm hE
theorem leastR_of {d:Nat}{ms l:List RuleM}{M:Nat}(h:PlanW d ms l M)(h0:(leastF (planL d (ofF l))).1=0):LeastR (planL d (ofF l))∧((makeF (planL d (ofF l))).1=0∧(leastF (planL d (ofF l))).2.length≤(makeF (planL d (ofF l))).2.ins.length∨(makeF (planL d (ofF l))).1=205):=by
 rcases least_or h.way with ⟨a,b⟩|⟨a,_,_⟩
 ·refine ⟨a,?_⟩
  rcases h.way.made with m|m
  ·exact Or.inl ⟨m.ok,b m.ok⟩
  ·exact Or.inr m
 ·rw [a] at h0;cases h0
theorem least_bad {d:Nat}{ms l:List RuleM}{M:Nat}(h:PlanW d ms l M)(h0:(leastF (planL d (ofF l))).1≠0):(leastF (planL d (ofF l))).1=205∧(makeF (planL d (ofF l))).1=205:=by
 rcases least_or h.way with ⟨a,_⟩|⟨a,_,c⟩
 ·exact absurd a.ok h0
 ·exact ⟨a,c⟩
theorem pg_fil {w w':World}{p:PolV}{nR nP nQ tb f:Nat}(h:PolG w p nR nP nQ tb)(g:w.grownBy w' (some f))(o:OffP p f):PolG w' p nR nP nQ tb:=⟨h.rd.grown o g,h.off,h.q,h.nm,h.pth,h.cP,h.cQ,h.eR,h.eP,h.eQ⟩
theorem ts_ty {w:World}{tb m:Nat}(h:TS w tb m):TyB w tb 114:=by
 obtain ⟨_,_,_,h⟩:=h
 rcases h with ⟨_,h⟩|⟨_,_,_,_,h,_⟩
 ·exact ⟨_,_,h⟩
 ·exact ⟨_,_,h⟩
theorem ts_fil {w w':World}{tb m f:Nat}{T:TypeId}(h:TS w tb m)(g:w.grownBy w' (some f))(hn:f≠tb)(hT:TyB w f T):TS w' tb m:=by
 have hm:∀{k:TypeId} {R:Value→Option (DataW Unit×List MemPlace)} {b n:Nat} {D:DataW Unit},w.ownsMap Tryz.prog k R b n D→b≠f:=fun ⟨es,c,h1,_⟩ e=>by
  obtain ⟨_,_,h2⟩:=hT
  rw [e,h2] at h1;cases h1
 obtain ⟨a,h1,h2,h⟩:=h
 refine ⟨a,h1,h2,?_⟩
 rcases h with ⟨h0,h⟩|⟨m1,n1,hm1,hn1,h,k1,k2⟩
 ·exact .inl ⟨h0,h.kept g (fun e=>hn (Option.some.inj e).symm)⟩
 ·exact .inr ⟨m1,n1,hm1,hn1,h.kept g (fun e=>hn (Option.some.inj e).symm),k1.kept g (fun e=>hm k1 (Option.some.inj e)),k2.kept g (fun e=>hm k2 (Option.some.inj e))⟩
theorem diff_none (s:RcM→Nat)(rs:List RcM):diffF s s rs=(zeroR 0 0,false):=by
 have h:rs.find? (fun x=>s x != s x)=none:=List.find?_eq_none.2 fun x _=>by simp
 unfold diffF;rw [h]
theorem difference_none (nm:ByteArray)(d:Nat)(rules:List RuleV)(RA:Option Addr)(nR Rc hd:Nat)(PA:Option Addr)(nP Pc:Nat)(QA:Option Addr)(nQ Qc BB q b o c rn st:Nat)(ins:List Ins)(rs:List RcM)(n:Nat)(A:Option Addr)(cap:Nat)(w:World)
  (hn:rules.length=nR) (h80:nR≤80) (hR:RRd w rules RA) (hc:∀r∈rules,r.m.conds.length≤20) (hF:Fil w BB q b o c ins rn st) (hG:Good ins) (hI:∀i∈ins,i.ok) (hil:ins.length≤4096) (hsay:∀x:RcM,x.ok→∀bs,Sees (recW bs) x→(runN (recW bs) ins).2=saysR d (rules.map RuleV.m) x)
  (hr:rs.length=n) (hn2:n≤20000) (hrn:rn≤100000) (hst:st≤1000000000) (hrow:TRd w 60 9 n A (rs.flatMap RcM.cells)) (hok:∀x∈rs,x.ok) :
  Calls Tryz.prog 21 #[.agg #[.string nm,.int .u32 d,.slice RA nR Rc,.int .u16 hd,.slice PA nP Pc,.slice QA nQ Qc],.pointer (some ⟨q,0,none⟩),.slice A n cap] w
   fun e w'=>e=.returned (.tuple #[.agg #[.int .u32 0,.int .u32 0,.int .u64 0,.int .u64 0,.int .u64 0,.int .u64 0,.int .u64 0,.int .u64 0,.int .u64 0],.bool false])∧(∃rn' st',rn'≤rn+n∧st'≤st+4096*n∧Fil w' BB q b o c ins rn' st')∧w.grownBy w' (some q):=
 (difference_any nm d rules RA nR Rc hd PA nP Pc QA nQ Qc BB q b o c rn st ins (fun x=>saysR d (rules.map RuleV.m) x) rs n A cap w hn h80 hR hc hF hG hI hil hsay hr hn2 hrn hst hrow hok).mono fun e w' ⟨h1,h2,h3⟩=>⟨by rw [h1,diff_none];rfl,h2,h3⟩
end Go.Proofs.YtcnebdjhhfnmoaaGreatDoor.Co
