/- Tidy: ways tQ a Goto go where that goes. -/
import Derived.Test.YtcnebdjhhfnmoaaGreatDoorL04
import Derived.Test.YtcnebdjhhfnmoaaGreatDoorL05
import Derived.Test.YtcnebdjhhfnmoaaGreatDoorL08
import Derived.Test.YtcnebdjhhfnmoaaGreatDoorL01
set_option maxHeartbeats 32000000
set_option maxRecDepth 100000
namespace Go.Proofs.YtcnebdjhhfnmoaaGreatDoor.Ju
open Go.RowKit Go.Shelf Go.Maps Go.WideMaps Go.WideElems Go.ChangeMaps
attribute [local go_sem] Oper.semAt_some
def lds (l:List PtM){n:Nat}(pre:List (GhN n)):LdM:=(pre.map GhN.ix).foldl leadS ⟨l,[],zPt⟩
theorem lds_snoc (l:List PtM){n:Nat}(pre:List (GhN n))(x:GhN n):lds l (pre++[x])=leadS (lds l pre) x.1.k:=by unfold lds;rw [List.map_append,List.foldl_append];rfl
theorem lds_len (l:List PtM){n:Nat}(pre:List (GhN n)):(lds l pre).l.length=l.length:=leadL_len _ _
theorem lds_ok {l:List PtM}(h:∀p∈l,p.ok){n:Nat}(pre:List (GhN n)):LdOk (lds l pre):=leadL_ok _ ⟨h,fun e he=>by simp at he,zPt_ok⟩
theorem set_cell7:∀(l:List PtM)(k j:Nat)(q q':PtM)(v:Value),j<7→l[k]?=some q→q'.cells=q.cells.set j v→(l.flatMap PtM.cells).set (k*7+j) v=(l.set k q').flatMap PtM.cells
 | [],_,_,_,_,_,_,h,_=>by simp at h
 | p::t,0,j,q,q',v,hj,h,e=>by
  simp only [List.getElem?_cons_zero,Option.some.injEq] at h
  subst h
  rw [Nat.zero_mul,Nat.zero_add,List.flatMap_cons,List.set_append_left _ _ (by rw [pt_len];exact hj),List.set_cons_zero,List.flatMap_cons,e]
 | p::t,k+1,j,q,q',v,hj,h,e=>by
  have:=set_cell7 t k j q q' v hj (by simpa using h) e
  rw [List.set_cons_succ,List.flatMap_cons,List.flatMap_cons,←this,List.set_append_right _ _ (by rw [pt_len];omega),pt_len,show (k+1)*7+j-7=k*7+j from by omega]
theorem set_same {l:List PtM}{k:Nat}{q:PtM}(h:l[k]?=some q):l.set k q=l:=by
 apply List.ext_getElem?
 intro j
 by_cases e:k=j
 ·subst e;rw [List.getElem?_set_self (List.getElem?_eq_some_iff.1 h).1,h]
 ·rw [List.getElem?_set_ne e]
theorem cell_other {w:World}{b c j:Nat}{u v:Value}(h:w.cell? ⟨b,0,none⟩=some u)(hn:b≠c):(w.setCell ⟨c,j,none⟩ v).cell? ⟨b,0,none⟩=some u:=by
 rw [←h]
 unfold World.cell?
 rw [Below.heap_setCell w _ v b (fun e=>hn e)]
def W7 (w:World)(b:Nat)(q:PtM):World:=((((((w.setCell ⟨b,0,none⟩ (.int .u8 q.kd)).setCell ⟨b,1,none⟩ (.int .i64 q.tQ)).setCell ⟨b,2,none⟩ (.int .i64 q.el)).setCell ⟨b,3,none⟩ (.int .u16 q.i.c)).setCell ⟨b,4,none⟩ (.int .u8 q.i.t)).setCell ⟨b,5,none⟩ (.int .u8 q.i.f)).setCell ⟨b,6,none⟩ (.int .u32 q.i.k)
theorem put_part {w:World}{b T:Nat}{p:PtM}(h:Bk w b T p.cells)(q:PtM):Bk (W7 w b q) b T q.cells∧w.grownBy (W7 w b q) (some b):=by
 constructor
 ·exact ((((((h.set 0 (.int .u8 q.kd)).set 1 (.int .i64 q.tQ)).set 2 (.int .i64 q.el)).set 3 (.int .u16 q.i.c)).set 4 (.int .u8 q.i.t)).set 5 (.int .u8 q.i.f)).set 6 (.int .u32 q.i.k)
 ·exact only_trans (only_set w b _ _) (only_trans (only_set _ b _ _) (only_trans (only_set _ b _ _) (only_trans (only_set _ b _ _) (only_trans (only_set _ b _ _) (only_trans (only_set _ b _ _) (only_set _ b _ _))))))
theorem keeps_part (w:World)(b:Nat)(q:PtM):KeepsOthers w (W7 w b q):=
 (KeepsOthers.setCell _ _ _).trans ((KeepsOthers.setCell _ _ _).trans ((KeepsOthers.setCell _ _ _).trans ((KeepsOthers.setCell _ _ _).trans ((KeepsOthers.setCell _ _ _).trans ((KeepsOthers.setCell _ _ _).trans (KeepsOthers.setCell _ _ _))))))
structure StL (w:World)(n cap N:Nat)(A:Option Addr)(B:Nat)(s:LdM)(W:World):Prop where
 bx:Bk W N 67 [.slice A n cap]
 ob:Bk W (N+2) 261 [.map (some (N+1))]
 nx:Bk W (N+3) 78 s.nx.cells
 bb:Bk W (N+4) 67 [.slice A n cap]
 mp:NMap W 74 (N+1) s.o
 row:W.ownsRow B 78 7 (.slice A n cap) n (s.l.flatMap PtM.cells)
 gr:w.grownBy W (Value.slice A n cap).ownBlock
 og:∀g,(Value.slice A n cap).ownBlock=some g→g<N
 NN:w.heap.size=N
section
variable {w:World} {n cap N B:Nat} {A:Option Addr} {s:LdM} {W W':World} {row:Option Nat}
theorem gr_then {w W W':World}{r row:Option Nat}(h:w.grownBy W r)(hg:W.grownBy W' row)(hr:∀j,row=some j→w.heap.size≤j∨r=some j):w.grownBy W' r:=by
 refine ⟨hg.os.trans h.os,hg.tape.trans h.tape,hg.output.trans h.output,Nat.le_trans h.size hg.size,fun i hi hn=>?_⟩
 refine (hg.block i (Nat.lt_of_lt_of_le hi h.size) (fun e=>?_)).trans (h.block i hi hn)
 rcases hr i e.symm with g|g
 ·omega
 ·exact hn g.symm
theorem StL.keepC (h:StL w n cap N A B s W)(hg:W.grownBy W' row)(hr:∀r,row=some r→N+5≤r∧∃o:Obj,W.heap[r]?=some o∧o.isCells=false):StL w n cap N A B s W':=
 ⟨bk_keepC h.bx hg (fun r e=>(hr r e).2),bk_keepC h.ob hg (fun r e=>(hr r e).2),bk_keepC h.nx hg (fun r e=>(hr r e).2),bk_keepC h.bb hg (fun r e=>(hr r e).2),h.mp.grown hg (fun e=>by have:=(hr _ e.symm).1;omega),own_keepC h.row hg (fun r e=>(hr r e).2),gr_then h.gr hg (fun j e=>Or.inl (by have:=(hr j e).1;have:=h.NN;omega)),h.og,h.NN⟩
theorem StL.drew (h:StL w n cap N A B s W):StL w n cap N A B s W.drew:=h.keepC (row:=none) ⟨rfl,rfl,rfl,Nat.le_refl _,fun _ _ _=>rfl⟩ (fun r e=>by cases e)
theorem StL.named (h:StL w n cap N A B s W){x t:Int}(hm:W'.ownsMap Tryz.prog 74 (plainElem Tryz.prog 74) (N+1) (s.o.length+1) ((mD s.o).put (.int .i64 x) (.lit (.int .i64 t))))(hg:W.grownBy W' (some (N+1))):StL w n cap N A B ⟨s.l,(x,t)::s.o,s.nx⟩ W':=by
 have ho:=h.og
 exact ⟨h.bx.grown hg (fun e=>by injection e with e;omega),h.ob.grown hg (fun e=>by injection e with e;omega),h.nx.grown hg (fun e=>by injection e with e;omega),h.bb.grown hg (fun e=>by injection e with e;omega),hm,own_keep h.row hg (fun b hb e=>by have:=ho b hb;omega),gr_then h.gr hg (fun j e=>Or.inl (by injection e with e;have:=h.NN;omega)),ho,h.NN⟩
theorem StL.cell (h:StL w n cap N A B s W){g k j:Nat}{q q':PtM}{v:Value}(hA:A=some ⟨g,0,none⟩)(hj:j<7)(hq:s.l[k]?=some q)(e:q'.cells=q.cells.set j v):StL w n cap N A B ⟨s.l.set k q',s.o,s.nx⟩ (W.setCell ⟨g,k*7+j,none⟩ v):=by
 subst hA
 have ho:=h.og g rfl
 have hs:=only_set W g (k*7+j) v
 have hrow:=or_set (j:=k*7+j) h.row v
 rw [set_cell7 s.l k j q q' v hj hq e] at hrow
 exact ⟨h.bx.grown hs (fun e=>by injection e with e;omega),h.ob.grown hs (fun e=>by injection e with e;omega),h.nx.grown hs (fun e=>by injection e with e;omega),h.bb.grown hs (fun e=>by injection e with e;omega),h.mp.grown hs (fun e=>by injection e with e;omega),hrow,gr_then h.gr hs (fun j e=>Or.inr (by injection e with e;rw [←e];rfl)),h.og,h.NN⟩
theorem StL.next (h:StL w n cap N A B s W)(q:PtM):StL w n cap N A B ⟨s.l,s.o,q⟩ (W7 W (N+3) q):=by
 obtain ⟨h1,hg⟩:=put_part h.nx q
 have ho:=h.og
 exact ⟨h.bx.grown hg (fun e=>by injection e with e;omega),h.ob.grown hg (fun e=>by injection e with e;omega),h1,h.bb.grown hg (fun e=>by injection e with e;omega),h.mp.grown hg (fun e=>by injection e with e;omega),own_keep h.row hg (fun b hb e=>by have:=ho b hb;omega),gr_then h.gr hg (fun j e=>Or.inl (by injection e with e;have:=h.NN;omega)),ho,h.NN⟩
theorem StL.kg {s':LdM}(h:StL w n cap N A B s W)(h':StL w n cap N A B s' W'){g:Nat}(hA:A=some ⟨g,0,none⟩):KG g (N+4) W W':=by
 subst hA
 refine ⟨fun cs t f hc=>?_,(h'.bb:_=_).trans (h.bb:_=_).symm⟩
 obtain ⟨_,⟨h2,_⟩|⟨g1,cap1,cur1,h2,_,h4,_,_,h7,_⟩⟩:=h.row
 ·cases h2
 ·cases h2
  obtain ⟨_,⟨h2,_⟩|⟨g2,cap2,cur2,h2,_,k4,_,_,k7,_⟩⟩:=h'.row
  ·cases h2
  ·cases h2
   rw [h4] at hc
   cases hc
   exact ⟨cur2,k4,by rw [h7,k7]⟩
theorem StL.cells (h:StL w n cap N A B s W){g k:Nat}{q:PtM}(hA:A=some ⟨g,0,none⟩)(hq:s.l[k]?=some q):∀j u,j<7→q.cells[j]?=some u→W.cell? ⟨g,k*7+j,none⟩=some u∧W.frozen? ⟨g,k*7+j,none⟩=false∧g<W.heap.size:=fun j u hj hu=>by
 subst hA
 refine or_cell h.row ?_
 rw [flatz PtM.cells 7 (fun _=>rfl) (by omega) s.l k j hj,hq]
 exact hu
end
theorem stl_0 (l:List PtM)(w:World)(n cap B:Nat)(A:Option Addr)(hr:w.ownsRow B 78 7 (.slice A n cap) n (l.flatMap PtM.cells)):StL w n cap w.heap.size A B ⟨l,[],zPt⟩ (((((w.alloc (.cells #[.slice A n cap] 67)).alloc (.map #[] 0)).alloc (.cells #[.map (some (w.heap.size+1))] 261)).alloc (.cells #[.int .u8 0,.int .i64 0,.int .i64 0,.int .u16 0,.int .u8 0,.int .u8 0,.int .u32 0] 78)).alloc (.cells #[.slice A n cap] 67)) ∧
  (((((w.alloc (.cells #[.slice A n cap] 67)).alloc (.map #[] 0)).alloc (.cells #[.map (some (w.heap.size+1))] 261)).alloc (.cells #[.int .u8 0,.int .i64 0,.int .i64 0,.int .u16 0,.int .u8 0,.int .u8 0,.int .u32 0] 78)).alloc (.cells #[.slice A n cap] 67)).heap.size=w.heap.size+5:=by
 obtain ⟨w1,h1⟩:∃x,x=w.alloc (.cells #[.slice A n cap] 67):=⟨_,rfl⟩
 obtain ⟨w2,h2⟩:∃x,x=w1.alloc (.map #[] 0):=⟨_,rfl⟩
 obtain ⟨w3,h3⟩:∃x,x=w2.alloc (.cells #[.map (some (w.heap.size+1))] 261):=⟨_,rfl⟩
 obtain ⟨w4,h4⟩:∃x,x=w3.alloc (.cells #[.int .u8 0,.int .i64 0,.int .i64 0,.int .u16 0,.int .u8 0,.int .u8 0,.int .u32 0] 78):=⟨_,rfl⟩
 obtain ⟨w5,h5⟩:∃x,x=w4.alloc (.cells #[.slice A n cap] 67):=⟨_,rfl⟩
 rw [←h1,←h2,←h3,←h4,←h5]
 have s1:w1.heap.size=w.heap.size+1:=by rw [h1];simp
 have s2:w2.heap.size=w.heap.size+2:=by rw [h2];simp [s1]
 have s3:w3.heap.size=w.heap.size+3:=by rw [h3];simp [s2]
 have s4:w4.heap.size=w.heap.size+4:=by rw [h4];simp [s3]
 have s5:w5.heap.size=w.heap.size+5:=by rw [h5];simp [s4]
 have b1:Below w.heap.size w w1:=by rw [h1];exact oneb w _
 have b2:Below w1.heap.size w1 w2:=by rw [h2];exact oneb w1 _
 have b3:Below w2.heap.size w2 w3:=by rw [h3];exact oneb w2 _
 have b4:Below w3.heap.size w3 w4:=by rw [h4];exact oneb w3 _
 have b5:Below w4.heap.size w4 w5:=by rw [h5];exact oneb w4 _
 have k0:Bk w1 w.heap.size 67 [.slice A n cap]:=by rw [h1];exact Bk.new w _ _ rfl
 have k1:NMap w2 74 w1.heap.size []:=by rw [h2];exact NMap.made w1 _
 have k2:Bk w3 w2.heap.size 261 [.map (some (w.heap.size+1))]:=by rw [h3];exact Bk.new w2 _ _ rfl
 have k3:Bk w4 w3.heap.size 78 zPt.cells:=by rw [h4];exact Bk.new w3 _ _ rfl
 have k4:Bk w5 w4.heap.size 67 [.slice A n cap]:=by rw [h5];exact Bk.new w4 _ _ rfl
 rw [s1] at k1
 rw [s2] at k2
 rw [s3] at k3
 rw [s4] at k4
 have bl:Below w.heap.size w w5:=(((b1.trans (b2.mono (by omega))).trans (b3.mono (by omega))).trans (b4.mono (by omega))).trans (b5.mono (by omega))
 exact ⟨⟨(((k0.kept b2).kept b3).kept b4).kept b5,(k2.kept b4).kept b5,k3.kept b5,k4,((k1.below b3).below b4).below b5,own_keepN hr bl,grown_below bl _,fun g hg=>(own_ge hr g hg).2,rfl⟩,s5⟩
theorem lead_any (l:List PtM)(n B:Nat)(A:Option Addr)(cap:Nat)(w:World)(hl:l.length=n)(hn:n≤65536)(hok:∀p∈l,p.ok)(hr:w.ownsRow B 78 7 (.slice A n cap) n (l.flatMap PtM.cells)) :
  Calls Tryz.prog 111 #[.slice A n cap] w fun e w'=>e=.returned (.tuple #[])∧w'.ownsRow B 78 7 (.slice A n cap) n ((leadF l).flatMap PtM.cells)∧w.grownBy w' (Value.slice A n cap).ownBlock:=by
 have HOK:=qd hok
 have HR:=qd hr
 have HL:=qd hl
 clear hok hr hl
 have hmm:=@run_makeMap Tryz.prog
 refine (callsIn_wide (n:=8)).1 ?_
 refine callsIn_of_wp_marks Tryz.func111 rfl trivial ?_ rfl
 simp only [Tryz.ntmps111,List.size_toArray,List.length_cons,List.length_nil,Nat.reduceAdd,Nat.reduceSub,Array.replicate_succ,Array.replicate_zero,List.push_toArray,List.append_toArray,List.nil_append,List.cons_append]
 gi_wp2_with (first|(refine ⟨trivial,?_⟩;gi_at_call 60;refine (backward_in _ _ _ _ _).mono ?_;rintro e w' ⟨rfl,rfl⟩))
 simp only [Nat.add_assoc,Nat.reduceAdd]
 obtain ⟨hst0,hsz0⟩:=stl_0 l w n cap B A HR.out
 revert hst0 hsz0
 generalize (((((w.alloc (.cells #[.slice A n cap] 67)).alloc (.map #[] 0)).alloc (.cells #[.map (some (w.heap.size+1))] 261)).alloc (.cells #[.int .u8 0,.int .i64 0,.int .i64 0,.int .u16 0,.int .u8 0,.int .u8 0,.int .u32 0] 78)).alloc (.cells #[.slice A n cap] 67))=W0
 intro hst0 hsz0
 have HS0:=qd hst0
 clear hst0 hmm
 obtain ⟨g,cs,hgA,hgl,hgc,hgs⟩:∃(g:Nat) (cs:Array Value),(n=0∨A=some ⟨g,0,none⟩)∧g<W0.heap.size∧(n=0∨W0.heap[g]?=some (.cells cs 78 (0,0)))∧n*7≤cs.size:=by
  obtain ⟨_,⟨h2,h3⟩|⟨g1,cap1,cur1,h2,_,h4,h5,_,h7,_⟩⟩:=HS0.out.row
  ·exact ⟨w.heap.size,#[],Or.inl h3,by omega,Or.inl h3,by rw [h3];simp⟩
  ·cases h2
   exact ⟨g1,cur1,Or.inr rfl,(Array.getElem?_eq_some_iff.1 h4).1,Or.inr h4,by rw [h7];exact Nat.mul_le_mul_right 7 h5⟩
 refine wpIn_rangeFunc_ownH rfl (by omega) (gf:=106) (lb:=#[.pointer (some ⟨w.heap.size+4,0,none⟩)]) rfl trivial (enters_of Tryz.func106 (by kernel_rfl) rfl)
  (backG_stops 7 (by omega) (w.heap.size+4) g n cap A hn W0 (by omega) (HS0.out.bb.cell 0 rfl) hgA cs 78 (0,0) hgc hgs) KG.trans (kg_put hgl (by omega)) (Below.refl _ _) (fun _=>rfl)
  (fun (pre:List (GhN n)) W=>StL w n cap w.heap.size A B (lds l pre) W∧(lds l pre).o.length≤pre.length) (fun _ _ _=>False)
  (fun pre X X' row hs hg hr=>⟨hs.1.keepC hg (fun r e=>⟨by have:=(hr r e).1;omega,(hr r e).2⟩),hs.2⟩)
  (fun _ _ _ _ _ hs _ _=>hs)
  ⟨HS0.out,Nat.le_refl 0⟩
  (fun (x:GhN n) a' _=>a'={ tmps:=#[.slice A n cap,.pointer (some ⟨w.heap.size,0,none⟩),.pointer (some ⟨w.heap.size+2,0,none⟩),.pointer (some ⟨w.heap.size+3,0,none⟩),.int .i64 (x.1.k:Int),undef,.map (some (w.heap.size+1)),.slice A n cap,.func (.func 106) #[] #[.pointer (some ⟨w.heap.size+4,0,none⟩)],.int .i64 (x.1.k:Int),.agg #[x.1.v0,x.1.v1,x.1.v2,x.1.v3,x.1.v4,x.1.v5,x.1.v6],undef,undef,undef,undef,undef,undef,undef,undef,undef,undef,undef,undef,undef,undef,undef,undef,undef,undef,undef,undef,undef,undef,undef,undef,undef,undef,undef,undef,undef,undef,undef,undef,undef,undef,undef,undef,undef,undef,undef,undef,undef,undef,undef,undef,undef,undef,undef,undef,undef,undef,undef,undef,undef],defers:=[] })
  (fun x a' _ X Z row hs hg hr=>hs)
  ?assign ?body ?done ?stop
 case assign=>
  intro L pre x W K hS hK
  unfold handedG
  gi_wp2
  exact hK _ _ (KeepsFrom.of_grownBy (row:=none) (World.grownBy.refl _ _) (fun j e=>by cases e)) (KG.refl _ _ _) hS rfl
 case body=>
  rintro L pre x a' W hl ⟨r,hr⟩ ⟨hS,hO⟩ rfl hlt
  have hA:A=some ⟨g,0,none⟩:=hgA.resolve_left (by omega)
  subst hA
  have hgN:=hS.og g rfl
  obtain ⟨s,hs⟩:∃s,s=lds l pre:=⟨_,rfl⟩
  have HLS:=qd (show lds l (pre++[x])=leadS s x.1.k by rw [lds_snoc,hs])
  have HLO:=qd (show LdOk s by rw [hs];exact lds_ok HOK.out pre)
  have hsl:s.l.length=n:=by rw [hs,lds_len,HL.out]
  rw [←hs] at hS hO
  obtain ⟨⟨k,v0,v1,v2,v3,v4,v5,v6⟩,hk⟩:=x
  dsimp only at hk HLS ⊢
  obtain ⟨q,hq⟩:∃q,s.l[k]?=some q:=⟨_,List.getElem?_eq_getElem (by omega)⟩
  have HQ:=qd hq
  have HQO:=qd (HLO.out.l q (List.mem_of_getElem? hq))
  have HS:=qd hS
  have hcell:=hS.cells rfl hq
  obtain ⟨y0,f0,gl⟩:=hcell 0 _ (by omega) rfl
  obtain ⟨y1,f1,_⟩:=hcell 1 _ (by omega) rfl
  obtain ⟨y2,f2,_⟩:=hcell 2 _ (by omega) rfl
  obtain ⟨y3,_,_⟩:=hcell 3 _ (by omega) rfl
  obtain ⟨y4,_,_⟩:=hcell 4 _ (by omega) rfl
  obtain ⟨y5,_,_⟩:=hcell 5 _ (by omega) rfl
  obtain ⟨y6,_,_⟩:=hcell 6 _ (by omega) rfl
  rw [Nat.add_zero] at y0 f0
  have b0:=hS.bx.cell 0 rfl
  have bl:=hS.bx.lt
  have o0:=hS.ob.cell 0 rfl
  have ol:=hS.ob.lt
  have n0:=hS.nx.cell 0 rfl
  have n1:=hS.nx.cell 1 rfl
  have nl:=hS.nx.lt
  have i0:(0:Int)≤(k:Int):=by omega
  have i1:(k:Int)<(n:Int):=by omega
  clear hS hcell hq hs hl hr r hsl
  by_cases h1:q.kd=1
  ·have e1:((q.kd:Int)==1)=true:=by rw [h1];rfl
   by_cases h4:s.nx.kd=4
   ·have e4:((s.nx.kd:Int)==4)=true:=by rw [h4];rfl
    have HV:=qd (show leadS s k=⟨s.l,(q.tQ,s.nx.tQ)::s.o,s.nx⟩ by unfold leadS;rw [HQ.out];simp only;rw [if_pos h1,if_pos h4])
    clear h1 h4
    have HSd:=qd HS.out.drew
    have wt:=wfI HLO.out.nx.to1 HLO.out.nx.to2
    have hol:s.o.length<maxLen:=by unfold maxLen;omega
    gi_wp2
    refine wp_onceIn ?fr (fun w'=>w'.ownsMap Tryz.prog 74 (plainElem Tryz.prog 74) (w.heap.size+1) (s.o.length+1) ((mD s.o).put (.int .i64 q.tQ) (.lit (.int .i64 s.nx.tQ)))∧W.drew.grownBy w' (some (w.heap.size+1))) ?reg ?imp
    case reg=>
     refine region_round 7 (by kernel_rfl) (by kernel_rfl) (by kernel_rfl) (onlyR_in _ _) ?_
     simp only [List.take_succ_cons,List.take_zero,List.drop_succ_cons,List.drop_zero]
     repeat still_step
     refine wpStill_nil ?_
     go_wp2_with (at_mapUpdate;go_loud (refine wpList_mapUpdate_own _ rfl _ _ _ 261 rfl 74 74 nameKeyed Tryz.underlying261 (plainElem Tryz.prog 74) (w.heap.size+1) _ _ rfl HSd.out.mp hol _ _ (.int .i64 q.tQ) rfl rfl (keyOf_int_mk Tryz.underlying74 (wfI HQO.out.to1 HQO.out.to2)) (.lit (.int .i64 s.nx.tQ)) [] (plainElem_int Tryz.underlying74 wt) ?_);intro w4 hm4 hg4)
     refine OnlyR.here ?_
     exact ⟨hm4,hg4⟩
    case imp=>
     rintro w' ⟨hm4,hg4⟩
     have HS2:=qd (HSd.out.named hm4 hg4)
     have HG4:=qd hg4
     clear hm4 hg4 y0 y1 y2 y3 y4 y5 y6 b0 bl o0 ol n0 n1 nl f0 f1 f2 gl
     gi_wp2
     refine ⟨((KeepsOthers.drew W).from _).trans (KeepsFrom.of_grownBy HG4.out (fun j e=>by cases e;omega)),HS.out.kg HS2.out rfl,?_,?_⟩
     ·rw [HLS.out,HV.out];exact HS2.out
     ·rw [HLS.out,HV.out,List.length_append];simp only [List.length_cons,List.length_nil];omega
   ·have e4:((s.nx.kd:Int)==4)=false:=by rw [beq_eq_false_iff_ne];omega
    have HV:=qd (show leadS s k=s by unfold leadS;rw [HQ.out];simp only;rw [if_pos h1,if_neg h4])
    clear h1 h4
    gi_wp2
    refine ⟨KeepsFrom.of_grownBy (row:=none) (World.grownBy.refl _ _) (fun j e=>by cases e),KG.refl _ _ _,?_,?_⟩
    ·rw [HLS.out,HV.out];exact HS.out
    ·rw [HLS.out,HV.out,List.length_append];simp only [List.length_cons,List.length_nil];omega
  have e1:((q.kd:Int)==1)=false:=by rw [beq_eq_false_iff_ne];omega
  have HV0:=qd (show leadS s k=⟨s.l.set k (ledP s.o q),s.o,ledP s.o q⟩ by unfold leadS;rw [HQ.out];simp only;rw [if_neg h1])
  have HKL:=qd (show k<s.l.length from (List.getElem?_eq_some_iff.1 HQ.out).1)
  have HSd:=qd HS.out.drew
  have HIO:=qd (show -9223372036854775808≤q.tQ∧q.tQ≤9223372036854775807 from ⟨HQO.out.to1,HQO.out.to2⟩)
  have hol:s.o.length≤100000:=by omega
  by_cases h3:q.kd=3
  ·have e3:((q.kd:Int)==3)=true:=by rw [h3];rfl
   obtain ⟨t1,ht1⟩:∃t1,t1=endF s.o q.tQ:=⟨_,rfl⟩
   obtain ⟨t2,ht2⟩:∃t2,t2=endF s.o q.el:=⟨_,rfl⟩
   have HLP:=qd (show ledP s.o q=⟨q.kd,t1,t2,q.i⟩ by unfold ledP;rw [if_pos h3,ht1,ht2])
   have HE1:=qd (fun W (h:NMap W 74 (w.heap.size+1) s.o)=>end_any s.o (w.heap.size+1) q.tQ W h HLO.out.o ⟨HQO.out.to1,HQO.out.to2⟩ hol)
   have HE2:=qd (fun W (h:NMap W 74 (w.heap.size+1) s.o)=>end_any s.o (w.heap.size+1) q.el W h HLO.out.o ⟨HQO.out.el1,HQO.out.el2⟩ hol)
   rw [←ht1] at HE1
   rw [←ht2] at HE2
   rw [HLP.out] at HV0
   clear h1 h3 ht1 ht2
   gi_wp2
   refine wp_onceIn ?fr3 (fun w'=>StL w n cap w.heap.size (some ⟨g,0,none⟩) B ⟨s.l.set k ⟨q.kd,t1,t2,q.i⟩,s.o,s.nx⟩ w'∧KeepsOthers W w') ?reg3 ?imp3
   case reg3=>
    have HmkS:Hid ((fun W1:World=>W1.cell? ⟨w.heap.size+2,0,none⟩=some (.map (some (w.heap.size+1)))∧w.heap.size+2<W1.heap.size) W.drew):=qd ⟨o0,ol⟩
    have Y1:=qd (show W.drew.cell? ⟨g,k*7+1,none⟩=some (.int .i64 q.tQ) from y1)
    have Y2:=qd (show W.drew.cell? ⟨g,k*7+2,none⟩=some (.int .i64 q.el) from y2)
    refine region_round_held (S:=(fun W1:World=>W1.cell? ⟨w.heap.size+2,0,none⟩=some (.map (some (w.heap.size+1)))∧w.heap.size+2<W1.heap.size)) (by kernel_rfl) (by kernel_rfl) (onlyR_in _ _) ?_ (fun hHeld0=>?_)
    ·exact HmkS.out
    refine tkH (i:=0) (s:=hHeld0) (h:=?_)
    try simp only [Act.put,pA,pB,pC]
    refine tkH (i:=1) (s:=hHeld0) (h:=?_)
    try simp only [Act.put,pA,pB,pC]
    refine tkH (i:=2) (s:=hHeld0) (h:=?_)
    try simp only [Act.put,pA,pB,pC]
    refine tkH (i:=3) (s:=hHeld0) (h:=?_)
    try simp only [Act.put,pA,pB,pC]
    refine tkH (i:=4) (s:=hHeld0) (h:=?_)
    try simp only [Act.put,pA,pB,pC]
    refine tkH (i:=5) (s:=hHeld0) (h:=?_)
    try simp only [Act.put,pA,pB,pC]
    refine tkH (i:=8) (s:=hHeld0) (h:=?_)
    try simp only [Act.put,pA,pB,pC]
    refine tkH (i:=9) (s:=hHeld0) (h:=?_)
    try simp only [Act.put,pA,pB,pC]
    refine tkH (i:=10) (s:=hHeld0) (h:=?_)
    try simp only [Act.put,pA,pB,pC]
    refine tkH (i:=11) (s:=hHeld0) (h:=?_)
    try simp only [Act.put,pA,pB,pC]
    refine wpAnyH_ready (rs:=[6,12]) (by kernel_rfl) (by simp) ?_
    refine crH (k:=fun K hK=>?_) (r:=?_)
    ·go_simp
     go_simp
     refine hK.out _ _ HmkS.out (fun hHeld1=>?_)
     clear hK K hHeld0
     try simp only [Act.put,pA,pB,pC]
     refine wpAnyH_ready (rs:=[7,12]) (by kernel_rfl) (by simp) ?_
     refine crH (k:=fun K hK=>?_) (r:=?_)
     ·go_simp
      go_simp
      refine (HE1.out _ HSd.out.mp).mono ?_
      rintro e w' ⟨rfl,rfl⟩
      refine hK.out _ _ HmkS.out (fun hHeld2=>?_)
      clear hK K hHeld1
      try simp only [Act.put,pA,pB,pC]
      refine wpAnyH_ready (rs:=[12]) (by kernel_rfl) (by simp) ?_
      refine crH (k:=fun K hK=>?_) (r:=?_)
      ·go_simp
       go_simp
       refine hK.out _ _ HmkS.out (fun hHeld3=>?_)
       clear hK K hHeld2
       try simp only [Act.put,pA,pB,pC]
       refine wpAnyH_ready (rs:=[13]) (by kernel_rfl) (by simp) ?_
       refine crH (k:=fun K hK=>?_) (r:=?_)
       ·go_simp
        go_simp
        refine (HE2.out _ HSd.out.mp).mono ?_
        rintro e w' ⟨rfl,rfl⟩
        refine hK.out _ _ HmkS.out (fun hHeld4=>?_)
        clear hK K hHeld3
        try simp only [Act.put,pA,pB,pC]
        refine tkH (i:=14) (s:=hHeld4) (h:=?_)
        try simp only [Act.put,pA,pB,pC]
        refine tkH (i:=15) (s:=hHeld4) (h:=?_)
        try simp only [Act.put,pA,pB,pC]
        refine wpAnyH_ready (rs:=[16]) (by kernel_rfl) (by simp) ?_
        refine crH (k:=fun K hK=>?_) (r:=?_)
        ·go_simp
         go_simp
         refine hK.out _ _ ⟨(cell_other HmkS.out.1 (by omega)),by simpa using HmkS.out.2⟩ (fun hHeld5=>?_)
         clear hK K hHeld4
         try simp only [Act.put,pA,pB,pC]
         refine tkH (i:=17) (s:=hHeld5) (h:=?_)
         try simp only [Act.put,pA,pB,pC]
         refine tkH (i:=18) (s:=hHeld5) (h:=?_)
         try simp only [Act.put,pA,pB,pC]
         refine wpAnyH_ready (rs:=[19]) (by kernel_rfl) (by simp) ?_
         refine crH (k:=fun K hK=>?_) (r:=?_)
         ·go_simp
          go_simp
          refine hK.out _ _ ⟨(cell_other (cell_other HmkS.out.1 (by omega)) (by omega)),by simpa using HmkS.out.2⟩ (fun hHeld6=>?_)
          clear hK K hHeld5
          try simp only [Act.put,pA,pB,pC]
          refine wpAnyH_done (by kernel_rfl) ?_ _
          refine OnlyR.here ?_
          refine ⟨?_,((KeepsOthers.drew W).trans (KeepsOthers.setCell _ _ _)).trans (KeepsOthers.setCell _ _ _)⟩
          have h2:=(HSd.out.cell (j:=1) (q':=⟨q.kd,t1,q.el,q.i⟩) (v:=.int .i64 t1) rfl (by omega) HQ.out rfl).cell (j:=2) (q:=⟨q.kd,t1,q.el,q.i⟩) (q':=⟨q.kd,t1,t2,q.i⟩) (v:=.int .i64 t2) (k:=k) rfl (by omega) (by simp only;rw [List.getElem?_set_self HKL.out]) rfl
          rw [List.set_set] at h2
          exact h2
         exact AllReadyH.nil
        exact AllReadyH.nil
       exact AllReadyH.nil
      exact AllReadyH.nil
     refine crH (k:=fun K hK=>?_) (r:=?_)
     ·go_simp
      go_simp
      refine hK.out _ _ HmkS.out (fun hHeld2=>?_)
      clear hK K hHeld1
      try simp only [Act.put,pA,pB,pC]
      refine wpAnyH_ready (rs:=[7]) (by kernel_rfl) (by simp) ?_
      refine crH (k:=fun K hK=>?_) (r:=?_)
      ·go_simp
       go_simp
       refine (HE1.out _ HSd.out.mp).mono ?_
       rintro e w' ⟨rfl,rfl⟩
       refine hK.out _ _ HmkS.out (fun hHeld3=>?_)
       clear hK K hHeld2
       try simp only [Act.put,pA,pB,pC]
       refine wpAnyH_ready (rs:=[13]) (by kernel_rfl) (by simp) ?_
       refine crH (k:=fun K hK=>?_) (r:=?_)
       ·go_simp
        go_simp
        refine (HE2.out _ HSd.out.mp).mono ?_
        rintro e w' ⟨rfl,rfl⟩
        refine hK.out _ _ HmkS.out (fun hHeld4=>?_)
        clear hK K hHeld3
        try simp only [Act.put,pA,pB,pC]
        refine tkH (i:=14) (s:=hHeld4) (h:=?_)
        try simp only [Act.put,pA,pB,pC]
        refine tkH (i:=15) (s:=hHeld4) (h:=?_)
        try simp only [Act.put,pA,pB,pC]
        refine wpAnyH_ready (rs:=[16]) (by kernel_rfl) (by simp) ?_
        refine crH (k:=fun K hK=>?_) (r:=?_)
        ·go_simp
         go_simp
         refine hK.out _ _ ⟨(cell_other HmkS.out.1 (by omega)),by simpa using HmkS.out.2⟩ (fun hHeld5=>?_)
         clear hK K hHeld4
         try simp only [Act.put,pA,pB,pC]
         refine tkH (i:=17) (s:=hHeld5) (h:=?_)
         try simp only [Act.put,pA,pB,pC]
         refine tkH (i:=18) (s:=hHeld5) (h:=?_)
         try simp only [Act.put,pA,pB,pC]
         refine wpAnyH_ready (rs:=[19]) (by kernel_rfl) (by simp) ?_
         refine crH (k:=fun K hK=>?_) (r:=?_)
         ·go_simp
          go_simp
          refine hK.out _ _ ⟨(cell_other (cell_other HmkS.out.1 (by omega)) (by omega)),by simpa using HmkS.out.2⟩ (fun hHeld6=>?_)
          clear hK K hHeld5
          try simp only [Act.put,pA,pB,pC]
          refine wpAnyH_done (by kernel_rfl) ?_ _
          refine OnlyR.here ?_
          refine ⟨?_,((KeepsOthers.drew W).trans (KeepsOthers.setCell _ _ _)).trans (KeepsOthers.setCell _ _ _)⟩
          have h2:=(HSd.out.cell (j:=1) (q':=⟨q.kd,t1,q.el,q.i⟩) (v:=.int .i64 t1) rfl (by omega) HQ.out rfl).cell (j:=2) (q:=⟨q.kd,t1,q.el,q.i⟩) (q':=⟨q.kd,t1,t2,q.i⟩) (v:=.int .i64 t2) (k:=k) rfl (by omega) (by simp only;rw [List.getElem?_set_self HKL.out]) rfl
          rw [List.set_set] at h2
          exact h2
         exact AllReadyH.nil
        exact AllReadyH.nil
       exact AllReadyH.nil
      exact AllReadyH.nil
     exact AllReadyH.nil
    refine crH (k:=fun K hK=>?_) (r:=?_)
    ·go_simp
     go_simp
     refine hK.out _ _ HmkS.out (fun hHeld1=>?_)
     clear hK K hHeld0
     try simp only [Act.put,pA,pB,pC]
     refine wpAnyH_ready (rs:=[6]) (by kernel_rfl) (by simp) ?_
     refine crH (k:=fun K hK=>?_) (r:=?_)
     ·go_simp
      go_simp
      refine hK.out _ _ HmkS.out (fun hHeld2=>?_)
      clear hK K hHeld1
      try simp only [Act.put,pA,pB,pC]
      refine wpAnyH_ready (rs:=[7]) (by kernel_rfl) (by simp) ?_
      refine crH (k:=fun K hK=>?_) (r:=?_)
      ·go_simp
       go_simp
       refine (HE1.out _ HSd.out.mp).mono ?_
       rintro e w' ⟨rfl,rfl⟩
       refine hK.out _ _ HmkS.out (fun hHeld3=>?_)
       clear hK K hHeld2
       try simp only [Act.put,pA,pB,pC]
       refine wpAnyH_ready (rs:=[13]) (by kernel_rfl) (by simp) ?_
       refine crH (k:=fun K hK=>?_) (r:=?_)
       ·go_simp
        go_simp
        refine (HE2.out _ HSd.out.mp).mono ?_
        rintro e w' ⟨rfl,rfl⟩
        refine hK.out _ _ HmkS.out (fun hHeld4=>?_)
        clear hK K hHeld3
        try simp only [Act.put,pA,pB,pC]
        refine tkH (i:=14) (s:=hHeld4) (h:=?_)
        try simp only [Act.put,pA,pB,pC]
        refine tkH (i:=15) (s:=hHeld4) (h:=?_)
        try simp only [Act.put,pA,pB,pC]
        refine wpAnyH_ready (rs:=[16]) (by kernel_rfl) (by simp) ?_
        refine crH (k:=fun K hK=>?_) (r:=?_)
        ·go_simp
         go_simp
         refine hK.out _ _ ⟨(cell_other HmkS.out.1 (by omega)),by simpa using HmkS.out.2⟩ (fun hHeld5=>?_)
         clear hK K hHeld4
         try simp only [Act.put,pA,pB,pC]
         refine tkH (i:=17) (s:=hHeld5) (h:=?_)
         try simp only [Act.put,pA,pB,pC]
         refine tkH (i:=18) (s:=hHeld5) (h:=?_)
         try simp only [Act.put,pA,pB,pC]
         refine wpAnyH_ready (rs:=[19]) (by kernel_rfl) (by simp) ?_
         refine crH (k:=fun K hK=>?_) (r:=?_)
         ·go_simp
          go_simp
          refine hK.out _ _ ⟨(cell_other (cell_other HmkS.out.1 (by omega)) (by omega)),by simpa using HmkS.out.2⟩ (fun hHeld6=>?_)
          clear hK K hHeld5
          try simp only [Act.put,pA,pB,pC]
          refine wpAnyH_done (by kernel_rfl) ?_ _
          refine OnlyR.here ?_
          refine ⟨?_,((KeepsOthers.drew W).trans (KeepsOthers.setCell _ _ _)).trans (KeepsOthers.setCell _ _ _)⟩
          have h2:=(HSd.out.cell (j:=1) (q':=⟨q.kd,t1,q.el,q.i⟩) (v:=.int .i64 t1) rfl (by omega) HQ.out rfl).cell (j:=2) (q:=⟨q.kd,t1,q.el,q.i⟩) (q':=⟨q.kd,t1,t2,q.i⟩) (v:=.int .i64 t2) (k:=k) rfl (by omega) (by simp only;rw [List.getElem?_set_self HKL.out]) rfl
          rw [List.set_set] at h2
          exact h2
         exact AllReadyH.nil
        exact AllReadyH.nil
       exact AllReadyH.nil
      exact AllReadyH.nil
     exact AllReadyH.nil
    exact AllReadyH.nil
   case imp3=>
    rintro w' ⟨hS2,hK2⟩
    have HS2:=qd hS2
    have HK2:=qd hK2
    have hcell:=hS2.cells (k:=k) (q:=⟨q.kd,t1,t2,q.i⟩) rfl (by simp only;rw [List.getElem?_set_self HKL.out])
    clear y0 y1 y2 y3 y4 y5 y6 b0 bl o0 ol n0 n1 nl f0 f1 f2 gl
    obtain ⟨y0,_,gl⟩:=hcell 0 _ (by omega) rfl
    obtain ⟨y1,_,_⟩:=hcell 1 _ (by omega) rfl
    obtain ⟨y2,_,_⟩:=hcell 2 _ (by omega) rfl
    obtain ⟨y3,_,_⟩:=hcell 3 _ (by omega) rfl
    obtain ⟨y4,_,_⟩:=hcell 4 _ (by omega) rfl
    obtain ⟨y5,_,_⟩:=hcell 5 _ (by omega) rfl
    obtain ⟨y6,_,_⟩:=hcell 6 _ (by omega) rfl
    rw [Nat.add_zero] at y0
    have n0:=hS2.nx.cell 0 rfl
    have n1:=hS2.nx.cell 1 rfl
    have n2:=hS2.nx.cell 2 rfl
    have n3:=hS2.nx.cell 3 rfl
    have n4:=hS2.nx.cell 4 rfl
    have n5:=hS2.nx.cell 5 rfl
    have n6:=hS2.nx.cell 6 rfl
    have z0:=hS2.nx.fz 0
    have z1:=hS2.nx.fz 1
    have z2:=hS2.nx.fz 2
    have z3:=hS2.nx.fz 3
    have z4:=hS2.nx.fz 4
    have z5:=hS2.nx.fz 5
    have z6:=hS2.nx.fz 6
    have nl:=hS2.nx.lt
    have HS3:=qd (hS2.next ⟨q.kd,t1,t2,q.i⟩)
    have HK3:=qd (hK2.trans (keeps_part w' (w.heap.size+3) ⟨q.kd,t1,t2,q.i⟩))
    clear hS2 hK2 hcell
    gi_wp2
    unfold W7 at HS3 HK3
    refine ⟨HK3.out.from _,HS.out.kg HS3.out rfl,?_,?_⟩
    ·rw [HLS.out,HV0.out];exact HS3.out
    ·rw [HLS.out,HV0.out,List.length_append];simp only [List.length_cons,List.length_nil];omega
  have e3:((q.kd:Int)==3)=false:=by rw [beq_eq_false_iff_ne];omega
  by_cases h4:q.kd=4
  ·have e4:((q.kd:Int)==4)=true:=by rw [h4];rfl
   obtain ⟨t1,ht1⟩:∃t1,t1=endF s.o q.tQ:=⟨_,rfl⟩
   have HLP:=qd (show ledP s.o q=⟨q.kd,t1,q.el,q.i⟩ by unfold ledP;rw [if_neg h3,if_pos h4,ht1])
   have HE1:=qd (fun W (h:NMap W 74 (w.heap.size+1) s.o)=>end_any s.o (w.heap.size+1) q.tQ W h HLO.out.o ⟨HQO.out.to1,HQO.out.to2⟩ hol)
   rw [←ht1] at HE1
   rw [HLP.out] at HV0
   clear h1 h3 h4 ht1
   gi_wp2
   refine wp_onceIn ?fr4 (fun w'=>StL w n cap w.heap.size (some ⟨g,0,none⟩) B ⟨s.l.set k ⟨q.kd,t1,q.el,q.i⟩,s.o,s.nx⟩ w'∧KeepsOthers W w') ?reg4 ?imp4
   case reg4=>
    have HmkS:Hid ((fun W1:World=>W1.cell? ⟨w.heap.size+2,0,none⟩=some (.map (some (w.heap.size+1)))∧w.heap.size+2<W1.heap.size) W.drew):=qd ⟨o0,ol⟩
    have Y1:=qd (show W.drew.cell? ⟨g,k*7+1,none⟩=some (.int .i64 q.tQ) from y1)
    refine region_round_held (S:=(fun W1:World=>W1.cell? ⟨w.heap.size+2,0,none⟩=some (.map (some (w.heap.size+1)))∧w.heap.size+2<W1.heap.size)) (by kernel_rfl) (by kernel_rfl) (onlyR_in _ _) ?_ (fun hHeld0=>?_)
    ·exact HmkS.out
    refine tkH (i:=0) (s:=hHeld0) (h:=?_)
    try simp only [Act.put,pA,pB,pC]
    refine tkH (i:=1) (s:=hHeld0) (h:=?_)
    try simp only [Act.put,pA,pB,pC]
    refine tkH (i:=2) (s:=hHeld0) (h:=?_)
    try simp only [Act.put,pA,pB,pC]
    refine tkH (i:=3) (s:=hHeld0) (h:=?_)
    try simp only [Act.put,pA,pB,pC]
    refine tkH (i:=4) (s:=hHeld0) (h:=?_)
    try simp only [Act.put,pA,pB,pC]
    refine wpAnyH_ready (rs:=[5]) (by kernel_rfl) (by simp) ?_
    refine crH (k:=fun K hK=>?_) (r:=?_)
    ·go_simp
     go_simp
     refine hK.out _ _ HmkS.out (fun hHeld1=>?_)
     clear hK K hHeld0
     try simp only [Act.put,pA,pB,pC]
     refine wpAnyH_ready (rs:=[6]) (by kernel_rfl) (by simp) ?_
     refine crH (k:=fun K hK=>?_) (r:=?_)
     ·go_simp
      go_simp
      refine (HE1.out _ HSd.out.mp).mono ?_
      rintro e w' ⟨rfl,rfl⟩
      refine hK.out _ _ HmkS.out (fun hHeld2=>?_)
      clear hK K hHeld1
      try simp only [Act.put,pA,pB,pC]
      refine tkH (i:=7) (s:=hHeld2) (h:=?_)
      try simp only [Act.put,pA,pB,pC]
      refine tkH (i:=8) (s:=hHeld2) (h:=?_)
      try simp only [Act.put,pA,pB,pC]
      refine wpAnyH_ready (rs:=[9]) (by kernel_rfl) (by simp) ?_
      refine crH (k:=fun K hK=>?_) (r:=?_)
      ·go_simp
       go_simp
       refine hK.out _ _ ⟨(cell_other HmkS.out.1 (by omega)),by simpa using HmkS.out.2⟩ (fun hHeld3=>?_)
       clear hK K hHeld2
       try simp only [Act.put,pA,pB,pC]
       refine wpAnyH_done (by kernel_rfl) ?_ _
       refine OnlyR.here ?_
       exact ⟨HSd.out.cell rfl (by omega) HQ.out rfl,(KeepsOthers.drew W).trans (KeepsOthers.setCell _ _ _)⟩
      exact AllReadyH.nil
     exact AllReadyH.nil
    exact AllReadyH.nil
   case imp4=>
    rintro w' ⟨hS2,hK2⟩
    have HS2:=qd hS2
    have HK2:=qd hK2
    have hcell:=hS2.cells (k:=k) (q:=⟨q.kd,t1,q.el,q.i⟩) rfl (by simp only;rw [List.getElem?_set_self HKL.out])
    clear y0 y1 y2 y3 y4 y5 y6 b0 bl o0 ol n0 n1 nl f0 f1 f2 gl
    obtain ⟨y0,_,gl⟩:=hcell 0 _ (by omega) rfl
    obtain ⟨y1,_,_⟩:=hcell 1 _ (by omega) rfl
    obtain ⟨y2,_,_⟩:=hcell 2 _ (by omega) rfl
    obtain ⟨y3,_,_⟩:=hcell 3 _ (by omega) rfl
    obtain ⟨y4,_,_⟩:=hcell 4 _ (by omega) rfl
    obtain ⟨y5,_,_⟩:=hcell 5 _ (by omega) rfl
    obtain ⟨y6,_,_⟩:=hcell 6 _ (by omega) rfl
    rw [Nat.add_zero] at y0
    have n0:=hS2.nx.cell 0 rfl
    have n1:=hS2.nx.cell 1 rfl
    have n2:=hS2.nx.cell 2 rfl
    have n3:=hS2.nx.cell 3 rfl
    have n4:=hS2.nx.cell 4 rfl
    have n5:=hS2.nx.cell 5 rfl
    have n6:=hS2.nx.cell 6 rfl
    have z0:=hS2.nx.fz 0
    have z1:=hS2.nx.fz 1
    have z2:=hS2.nx.fz 2
    have z3:=hS2.nx.fz 3
    have z4:=hS2.nx.fz 4
    have z5:=hS2.nx.fz 5
    have z6:=hS2.nx.fz 6
    have nl:=hS2.nx.lt
    have HS3:=qd (hS2.next ⟨q.kd,t1,q.el,q.i⟩)
    have HK3:=qd (hK2.trans (keeps_part w' (w.heap.size+3) ⟨q.kd,t1,q.el,q.i⟩))
    clear hS2 hK2 hcell
    gi_wp2
    unfold W7 at HS3 HK3
    refine ⟨HK3.out.from _,HS.out.kg HS3.out rfl,?_,?_⟩
    ·rw [HLS.out,HV0.out];exact HS3.out
    ·rw [HLS.out,HV0.out,List.length_append];simp only [List.length_cons,List.length_nil];omega
  ·have e4:((q.kd:Int)==4)=false:=by rw [beq_eq_false_iff_ne];omega
   have HLP:=qd (show ledP s.o q=q by unfold ledP;rw [if_neg h3,if_neg h4])
   rw [HLP.out] at HV0
   have hS2:StL w n cap w.heap.size (some ⟨g,0,none⟩) B ⟨s.l.set k q,s.o,s.nx⟩ W:=by rw [set_same HQ.out];exact HS.out
   have hK2:=KeepsOthers.refl W
   clear h1 h3 h4
   have n0:=hS2.nx.cell 0 rfl
   have n1:=hS2.nx.cell 1 rfl
   have n2:=hS2.nx.cell 2 rfl
   have n3:=hS2.nx.cell 3 rfl
   have n4:=hS2.nx.cell 4 rfl
   have n5:=hS2.nx.cell 5 rfl
   have n6:=hS2.nx.cell 6 rfl
   have z0:=hS2.nx.fz 0
   have z1:=hS2.nx.fz 1
   have z2:=hS2.nx.fz 2
   have z3:=hS2.nx.fz 3
   have z4:=hS2.nx.fz 4
   have z5:=hS2.nx.fz 5
   have z6:=hS2.nx.fz 6
   have nl:=hS2.nx.lt
   have HS3:=qd (hS2.next q)
   have HK3:=qd (hK2.trans (keeps_part W (w.heap.size+3) q))
   clear hS2 hK2
   gi_wp2
   unfold W7 at HS3 HK3
   refine ⟨HK3.out.from _,HS.out.kg HS3.out rfl,?_,?_⟩
   ·rw [HLS.out,HV0.out];exact HS3.out
   ·rw [HLS.out,HV0.out,List.length_append];simp only [List.length_cons,List.length_nil];omega
 case done=>
  rintro D' ys W hD' hys ⟨hS,_⟩ hK
  have hend:(lds l ys).l=leadF l:=by unfold lds leadF;rw [hys,HL.out]
  have HE:=qd hend
  have HS:=qd hS
  have HK:=qd hK
  clear hend hS hK hys
  gi_wp2
  refine ⟨by simp,.inl ⟨_,_,rfl,run_takeDeferred HK.out,?_⟩⟩
  have hput:=grownBy_putObj' W D' (.deferred none)
  have hrow:=own_keepC HS.out.row hput (fun r e=>by cases e;exact ⟨_,HK.out,rfl⟩)
  rw [HE.out] at hrow
  exact ⟨_,results_none rfl _ _ _,rfl,hrow,gr_then HS.out.gr hput (fun j e=>Or.inl (by injection e with e;omega))⟩
 case stop=>
  rintro D' c pre W _ _ h _
  exact h.elim
end Go.Proofs.YtcnebdjhhfnmoaaGreatDoor.Ju
