/- slices.Backward over parts: the last first. -/
import Derived.RangeFuncNested
import Derived.RangeFuncBound
import Derived.RangeFuncCalls
import Derived.RangeFuncLeaves
import Derived.Shelf.Abstract
import Derived.Shelf.RegionOpen
import Derived.WalkKit
import Derived.OwnWalkIn
import Derived.TacticsInMore
import Derived.LoopNIn
import Derived.LoopIn
import Derived.Test.YtcnebdjhhfnmoaaGreatDoorL03
import Derived.Test.YtcnebdjhhfnmoaaGreatDoorL01
set_option maxHeartbeats 32000000
set_option maxRecDepth 100000
namespace Go.Proofs.YtcnebdjhhfnmoaaGreatDoor.Ju
open Go.RowKit Go.Shelf
attribute [local go_sem] Oper.semAt_some
abbrev Pa (l:List PtM):={ x:Nat×PtM // l[x.1]?=some x.2 }
def Pa.pt {l:List PtM}(x:Pa l):PtM:=x.1.2
def handed {l:List PtM}(x:Pa l):Array Value:=#[.int .i64 (x.1.1:Int),.agg #[.int .u8 x.1.2.kd,.int .i64 x.1.2.tQ,.int .i64 x.1.2.el,.int .u16 x.1.2.i.c,.int .u8 x.1.2.i.t,.int .u8 x.1.2.i.f,.int .u32 x.1.2.i.k]]
structure KB (n₀ Bs:Nat)(W W':World):Prop where
 bel:Below n₀ W W'
 box:W'.heap[Bs]?=W.heap[Bs]?
theorem KB.refl (n₀ Bs:Nat)(W:World):KB n₀ Bs W W:=⟨Below.refl _ _,rfl⟩
theorem KB.trans {n₀ Bs:Nat}{A B C:World}(h:KB n₀ Bs A B)(k:KB n₀ Bs B C):KB n₀ Bs A C:=⟨h.bel.trans k.bel,k.box.trans h.box⟩
theorem kb_put {n₀ Bs:Nat}{w:World}(hn:n₀≤w.heap.size)(hB:Bs<w.heap.size)(W:World)(l:Nat)(o o':Obj)(hl:w.heap.size≤l)(h:W.heap[l]?=some o)(h2:o.isCells=false)(h3:o.isWalk=false):KB n₀ Bs W (W.putObj l o'):=
 ⟨belowK_b hn W l o o' hl h h2 h3,(grownBy_putObj' W l o').block Bs (by have:=(Array.getElem?_eq_some_iff.1 h).1;omega) (by intro e;cases e;omega)⟩
theorem KB.cell {n₀ Bs:Nat}{W W':World}(h:KB n₀ Bs W W'):W'.cell? ⟨Bs,0,none⟩=W.cell? ⟨Bs,0,none⟩:=by unfold World.cell?;rw [h.box]
theorem rev_drop {l:List PtM}{q:Nat}{x:PtM}(h:l[q]?=some x):(l.drop q).reverse=(l.drop (q+1)).reverse++[x]:=by
 obtain ⟨h1,h2⟩:=List.getElem?_eq_some_iff.1 h
 rw [List.drop_eq_getElem_cons h1,h2,List.reverse_cons]
theorem back1 (m:Nat)(hm:1≤m)(L Bs n₀ n cap:Nat)(A:Option Addr)(hn:n≤65536)(l:List PtM)(hl:l.length=n)(J Jx:List (Pa l)→World→Prop)
  (hY:∀pre x W,J pre W→pre.length<n→YieldAt Fence.wide (m-1) Tryz.prog L (handed x) W fun e W'=>
   (e=.returned (.bool true)∧J (pre++[x]) W'∧KB n₀ Bs W W')∨(e=.returned (.bool false)∧Jx (pre++[x]) W'))
  (W:World) (hBs:W.cell? ⟨Bs,0,none⟩=some (.slice A n cap))
  (hR:∀W',Below n₀ W W'→Rd W' 7 n A (l.flatMap PtM.cells))
  (h0:J [] W) :
  CallsIn Fence.wide m Tryz.prog 106 #[.func (.yield L) #[] #[],.pointer (some ⟨Bs,0,none⟩)] W fun e W'=>(∃v,e=.returned v) ∧
   ((∃ys:List (Pa l),ys.map Pa.pt=l.reverse∧J ys W')∨(∃pre:List (Pa l),(∃q,pre.map Pa.pt=(l.drop q).reverse)∧Jx pre W')):=by
 have HR0:=qd hR
 clear hR
 refine callsIn_of_wp Tryz.func106 rfl trivial ?_ rfl
 simp only [Tryz.ntmps106,List.size_toArray,List.length_cons,List.length_nil,Nat.reduceAdd,Nat.reduceSub,Array.replicate_succ,Array.replicate_zero,List.push_toArray,List.append_toArray,List.nil_append,List.cons_append]
 gi_wp2
 gi_loopw [3] (fun i wr=>∃(p:Nat) (z:Int) (pre:List (Pa l)),p≤n∧z+1=p∧i=.int .i64 z∧Hid (J pre wr)∧Hid (pre.map Pa.pt=(l.drop p).reverse)∧Hid (KB n₀ Bs W wr))
  (fun i _=>(intOf i+1).toNat)
 case atStart=>exact ⟨n,(n:Int)-1,[],Nat.le_refl _,by omega,rfl,h0,qd (by rw [List.drop_of_length_le (by omega)];rfl),KB.refl _ _ _⟩
 case round=>
  obtain ⟨p,z,pre,hp,hz,rfl,HJ,HP,Hnx⟩:=hrel
  have hsl:wr.cell? ⟨Bs,0,none⟩=some (.slice A n cap):=Hnx.out.cell.trans hBs
  by_cases hlt:0<p
  ·obtain ⟨q,rfl⟩:∃q,p=q+1:=⟨p-1,by omega⟩
   obtain rfl:z=(q:Int):=by omega
   have hq:q<n:=by omega
   obtain ⟨x,hx⟩:∃x,l[q]?=some x:=⟨_,List.getElem?_eq_getElem (by omega)⟩
   obtain ⟨b,o,hA,hbl,hcell⟩:=(HR0.out wr Hnx.out.bel).one (fun _=>rfl) (by omega) (by omega)
   obtain ⟨e0,e1,e2,e3,e4,e5,e6⟩:=seven_cells hcell hx
   subst hA
   have hprl:pre.length<n:=by
    have:=congrArg List.length HP.out
    simp at this;omega
   have HP2:=qd (show (pre++[(⟨(q,x),hx⟩:Pa l)]).map Pa.pt=(l.drop q).reverse by rw [List.map_append,HP.out,rev_drop hx];rfl)
   obtain ⟨fn,tmps,assign,body,hy,hR⟩:=hY _ ⟨(q,x),hx⟩ wr HJ.out hprl
   have HR:=qd hR
   dsimp only [handed] at hy
   clear hR hz hcell hprl
   gi_wp2
   refine HR.out.mono ?_
   rintro e W3 (⟨rfl,hJ3,hk3⟩|⟨rfl,hJx3⟩)
   ·have HE:=qd hJ3
    have HB:=qd (Hnx.out.trans hk3)
    clear hJ3 hk3
    gi_wp2
    go_roundw
    case rel=>exact ⟨q,(q:Int)-1,_,by omega,by omega,by go_num,HE,HP2,HB⟩
    case measure=>simp [intOf]
   ·gi_wp2
    refine bodyPost_ret (results_none rfl _ _ _) rfl ?_
    exact ⟨⟨_,rfl⟩,.inr ⟨_,⟨_,HP2.out⟩,hJx3⟩⟩
  ·obtain rfl:p=0:=by omega
   obtain rfl:z=-1:=by omega
   gi_wp2
   go_end0
   exact ⟨⟨_,rfl⟩,.inl ⟨_,by rw [HP.out,List.drop_zero],HJ.out⟩⟩
theorem backward_in (m:Nat)(A:Option Addr)(n cap:Nat)(w:World) :
  CallsIn Fence.wide m Tryz.prog 60 #[.slice A n cap] w fun e w'=>e=.returned (.func (.func 106) #[] #[.pointer (some ⟨w.heap.size,0,none⟩)])∧w'=w.alloc (.cells #[.slice A n cap] 67):=by
 refine callsIn_of_wp Tryz.func60 rfl trivial ?_ rfl
 simp only [Tryz.ntmps60,List.size_toArray,List.length_cons,List.length_nil,Nat.reduceAdd,Nat.reduceSub,Array.replicate_succ,Array.replicate_zero,List.push_toArray,List.append_toArray,List.nil_append,List.cons_append]
 gi_wp2
 go_ret
 exact ⟨rfl,rfl⟩
theorem back_stops (m:Nat)(hm:1≤m)(Bs n₀ n cap:Nat)(A:Option Addr)(hn:n≤65536)(l:List PtM)(hl:l.length=n)(w:World)(hBn:Bs<w.heap.size)(hn₀:n₀≤w.heap.size)
  (hBs:w.cell? ⟨Bs,0,none⟩=some (.slice A n cap)) (hR:∀W',Below n₀ w W'→Rd W' 7 n A (l.flatMap PtM.cells)) :
  SeqStopsK Fence.wide m Tryz.prog 106 #[.pointer (some ⟨Bs,0,none⟩)] (handed (l:=l)) (KB n₀ Bs) (fun ys=>ys.map Pa.pt=l.reverse) (fun pre=>∃q,pre.map Pa.pt=(l.drop q).reverse) n w:=fun L J Jx W hW _ _ hY h0=>by
 have hW':=hW.mono hn₀
 exact back1 m hm L Bs n₀ n cap A hn l hl J Jx hY W ((hW.cell (p:=⟨Bs,0,none⟩) hBn).trans hBs) (fun W' h=>hR W' (hW'.trans h)) h0
/-! The same over parts that a round may turn: what is handed out is whatever stands there. -/
structure KG (b Bs:Nat)(W W':World):Prop where
 row:∀cs t f,W.heap[b]?=some (.cells cs t f)→∃cs',W'.heap[b]?=some (.cells cs' t f)∧cs'.size=cs.size
 box:W'.heap[Bs]?=W.heap[Bs]?
theorem KG.refl (b Bs:Nat)(W:World):KG b Bs W W:=⟨fun cs _ _ h=>⟨cs,h,rfl⟩,rfl⟩
theorem KG.trans {b Bs:Nat}{A B C:World}(h:KG b Bs A B)(k:KG b Bs B C):KG b Bs A C:=
 ⟨fun cs t f hc=>by obtain ⟨c1,h1,e1⟩:=h.row cs t f hc;obtain ⟨c2,h2,e2⟩:=k.row c1 t f h1;exact ⟨c2,h2,e2.trans e1⟩,k.box.trans h.box⟩
theorem kg_put {b Bs:Nat}{w:World}(hb:b<w.heap.size)(hB:Bs<w.heap.size)(W:World)(l:Nat)(o o':Obj)(hl:w.heap.size≤l)(h:W.heap[l]?=some o)(_h2:o.isCells=false)(_h3:o.isWalk=false):KG b Bs W (W.putObj l o'):=by
 have hls:=(Array.getElem?_eq_some_iff.1 h).1
 exact ⟨fun cs t f hc=>⟨cs,((grownBy_putObj' W l o').block b (by omega) (by intro e;cases e;omega)).trans hc,rfl⟩,(grownBy_putObj' W l o').block Bs (by omega) (by intro e;cases e;omega)⟩
theorem KG.cell {b Bs:Nat}{W W':World}(h:KG b Bs W W'):W'.cell? ⟨Bs,0,none⟩=W.cell? ⟨Bs,0,none⟩:=by unfold World.cell?;rw [h.box]
structure Gh where
 k:Nat
 v0:Value
 v1:Value
 v2:Value
 v3:Value
 v4:Value
 v5:Value
 v6:Value
abbrev GhN (n:Nat):={ x:Gh // x.k<n }
def GhN.ix {n:Nat}(x:GhN n):Nat:=x.1.k
def handedG {n:Nat}(x:GhN n):Array Value:=#[.int .i64 (x.1.k:Int),.agg #[x.1.v0,x.1.v1,x.1.v2,x.1.v3,x.1.v4,x.1.v5,x.1.v6]]
theorem cell_in {w:World}{b j:Nat}{cs:Array Value}{t:TypeId}{f:Nat×Nat}(h:w.heap[b]?=some (.cells cs t f))(hj:j<cs.size):∃v,w.cell? ⟨b,j,none⟩=some v:=by
 refine ⟨cs[j],?_⟩
 simp [World.cell?,h,hj]
theorem down_step {n q:Nat}(h:q<n):(List.range' q (n-q)).reverse=(List.range' (q+1) (n-(q+1))).reverse++[q]:=by
 rw [show n-q=(n-(q+1))+1 from by omega,List.range'_succ,List.reverse_cons]
theorem backG (m:Nat)(hm:1≤m)(L Bs b n cap:Nat)(A:Option Addr)(hn:n≤65536)(J Jx:List (GhN n)→World→Prop)
  (hY:∀pre x W,J pre W→pre.length<n→YieldAt Fence.wide (m-1) Tryz.prog L (handedG x) W fun e W'=>
   (e=.returned (.bool true)∧J (pre++[x]) W'∧KG b Bs W W')∨(e=.returned (.bool false)∧Jx (pre++[x]) W'))
  (W:World) (hBs:W.cell? ⟨Bs,0,none⟩=some (.slice A n cap)) (hA:n=0∨A=some ⟨b,0,none⟩)
  (cs:Array Value) (t:TypeId) (f:Nat×Nat) (hc:n=0∨W.heap[b]?=some (.cells cs t f)) (hcs:n*7≤cs.size)
  (h0:J [] W) :
  CallsIn Fence.wide m Tryz.prog 106 #[.func (.yield L) #[] #[],.pointer (some ⟨Bs,0,none⟩)] W fun e W'=>(∃v,e=.returned v) ∧
   ((∃ys:List (GhN n),ys.map GhN.ix=(List.range n).reverse∧J ys W')∨(∃pre:List (GhN n),True∧Jx pre W')):=by
 have HC:=qd hc
 have HA:=qd hA
 clear hc hA
 refine callsIn_of_wp Tryz.func106 rfl trivial ?_ rfl
 simp only [Tryz.ntmps106,List.size_toArray,List.length_cons,List.length_nil,Nat.reduceAdd,Nat.reduceSub,Array.replicate_succ,Array.replicate_zero,List.push_toArray,List.append_toArray,List.nil_append,List.cons_append]
 gi_wp2
 gi_loopw [3] (fun i wr=>∃(p:Nat) (z:Int) (pre:List (GhN n)),p≤n∧z+1=p∧i=.int .i64 z∧Hid (J pre wr)∧Hid (pre.map GhN.ix=(List.range' p (n-p)).reverse)∧Hid (KG b Bs W wr))
  (fun i _=>(intOf i+1).toNat)
 case atStart=>exact ⟨n,(n:Int)-1,[],Nat.le_refl _,by omega,rfl,h0,qd (by rw [Nat.sub_self];rfl),KG.refl _ _ _⟩
 case round=>
  obtain ⟨p,z,pre,hp,hz,rfl,HJ,HP,Hnx⟩:=hrel
  have hsl:wr.cell? ⟨Bs,0,none⟩=some (.slice A n cap):=Hnx.out.cell.trans hBs
  by_cases hlt:0<p
  ·obtain ⟨q,rfl⟩:∃q,p=q+1:=⟨p-1,by omega⟩
   obtain rfl:z=(q:Int):=by omega
   have hq:q<n:=by omega
   obtain rfl:A=some ⟨b,0,none⟩:=HA.out.resolve_left (by omega)
   obtain ⟨cs',hc',hsz⟩:=Hnx.out.row cs t f (HC.out.resolve_left (by omega))
   obtain ⟨v0,e0⟩:=cell_in (j:=q*7) hc' (by omega)
   obtain ⟨v1,e1⟩:=cell_in (j:=q*7+1) hc' (by omega)
   obtain ⟨v2,e2⟩:=cell_in (j:=q*7+2) hc' (by omega)
   obtain ⟨v3,e3⟩:=cell_in (j:=q*7+3) hc' (by omega)
   obtain ⟨v4,e4⟩:=cell_in (j:=q*7+4) hc' (by omega)
   obtain ⟨v5,e5⟩:=cell_in (j:=q*7+5) hc' (by omega)
   obtain ⟨v6,e6⟩:=cell_in (j:=q*7+6) hc' (by omega)
   have hbl:b<wr.heap.size:=(Array.getElem?_eq_some_iff.1 hc').1
   have hprl:pre.length<n:=by
    have:=congrArg List.length HP.out
    simp at this;omega
   have HP2:=qd (show (pre++[(⟨⟨q,v0,v1,v2,v3,v4,v5,v6⟩,hq⟩:GhN n)]).map GhN.ix=(List.range' q (n-q)).reverse by rw [List.map_append,HP.out,down_step hq];rfl)
   obtain ⟨fn,tmps,assign,body,hy,hR⟩:=hY _ ⟨⟨q,v0,v1,v2,v3,v4,v5,v6⟩,hq⟩ wr HJ.out hprl
   have HR:=qd hR
   dsimp only [handedG] at hy
   clear hR hz hprl hc' hsz
   gi_wp2
   refine HR.out.mono ?_
   rintro e W3 (⟨rfl,hJ3,hk3⟩|⟨rfl,hJx3⟩)
   ·have HE:=qd hJ3
    have HB:=qd (Hnx.out.trans hk3)
    clear hJ3 hk3
    gi_wp2
    go_roundw
    case rel=>exact ⟨q,(q:Int)-1,_,by omega,by omega,by go_num,HE,HP2,HB⟩
    case measure=>simp [intOf]
   ·gi_wp2
    refine bodyPost_ret (results_none rfl _ _ _) rfl ?_
    exact ⟨⟨_,rfl⟩,.inr ⟨_,trivial,hJx3⟩⟩
  ·obtain rfl:p=0:=by omega
   obtain rfl:z=-1:=by omega
   gi_wp2
   go_end0
   exact ⟨⟨_,rfl⟩,.inl ⟨_,by rw [HP.out,Nat.sub_zero,←List.range_eq_range'],HJ.out⟩⟩
theorem backG_stops (m:Nat)(hm:1≤m)(Bs b n cap:Nat)(A:Option Addr)(hn:n≤65536)(w:World)(hBn:Bs<w.heap.size)
  (hBs:w.cell? ⟨Bs,0,none⟩=some (.slice A n cap)) (hA:n=0∨A=some ⟨b,0,none⟩) (cs:Array Value) (t:TypeId) (f:Nat×Nat) (hc:n=0∨w.heap[b]?=some (.cells cs t f)) (hcs:n*7≤cs.size) :
  SeqStopsK Fence.wide m Tryz.prog 106 #[.pointer (some ⟨Bs,0,none⟩)] (handedG (n:=n)) (KG b Bs) (fun ys=>ys.map GhN.ix=(List.range n).reverse) (fun _=>True) n w:=fun L J Jx W hW _ _ hY h0=>by
 exact backG m hm L Bs b n cap A hn J Jx hY W ((hW.cell (p:=⟨Bs,0,none⟩) hBn).trans hBs) hA cs t f (hc.imp id fun h=>(hW.block b (Array.getElem?_eq_some_iff.1 h).1).trans h) hcs h0
end Go.Proofs.YtcnebdjhhfnmoaaGreatDoor.Ju
namespace Go.Proofs.YtcnebdjhhfnmoaaGreatDoor.Ju
open Go.RowKit Go.Maps Go.WideMaps Go.WideElems Go.ChangeMaps
def bhI (e:Int×Nat):Int×Int:=(e.1,(e.2:Int))
theorem lk_map (n:Int):∀b:List (Int×Nat),lk n (b.map bhI)=Option.map (fun (v:Nat)=>(v:Int)) (lk n b)
 | []=>rfl
 | (m,v)::b=>by
  rw [List.map_cons]
  show lk n ((m,(v:Int))::b.map bhI)=_
  rw [lk_cons,lk_cons,lk_map n b]
  by_cases h:m=n<;>simp [h]
structure CR (w:World)(p m B:Nat)(v:Value)(c:CdM):Prop where
 box:Bk w p 171 [v,.map (some m)]
 row:w.ownsRow B 76 4 v c.ins.length (c.ins.reverse.flatMap Ins.cells)
 mp:NMap w 3 m (c.bh.map bhI)
 pB:p<B
 mB:m<B
 pm:p≠m
 le:B≤w.heap.size
theorem own_ge {w:World}{n:Nat}{e:TypeId}{z:Nat}{v:Value}{xs:List Value}{B:Nat}(h:w.ownsRow B e z v n xs):∀g,v.ownBlock=some g→B≤g∧g<w.heap.size:=by
 intro g hg
 obtain ⟨h1,⟨h2,h3⟩|⟨g',cap,cur,h2,h3,h4,h5⟩⟩:=h
 ·subst h2;cases hg
 ·subst h2;cases hg;exact ⟨h3,(Array.getElem?_eq_some_iff.1 h4).1⟩
theorem own_base {w:World}{B B':Nat}{e:TypeId}{z n:Nat}{v:Value}{xs:List Value}(h:w.ownsRow B e z v n xs)(hB:B'≤B):w.ownsRow B' e z v n xs:=by
 obtain ⟨h1,h2|⟨g,cap,cur,e,h3,h4⟩⟩:=h
 ·exact ⟨h1,Or.inl h2⟩
 ·exact ⟨h1,Or.inr ⟨g,cap,cur,e,Nat.le_trans hB h3,h4⟩⟩
structure Fr (p m:Nat)(v v':Value)(w w':World):Prop where
 os:w'.os=w.os
 tape:w'.tape=w.tape
 output:w'.output=w.output
 size:w.heap.size≤w'.heap.size
 block:∀i,i<w.heap.size→i≠p→i≠m→some i≠v.ownBlock→w'.heap[i]?=w.heap[i]?
 own:v'.ownBlock=v.ownBlock∨∀g,v'.ownBlock=some g→w.heap.size≤g
section
variable {w w' w2:World} {p m B:Nat} {v v' v2:Value} {c:CdM}
theorem Fr.refl (p m:Nat)(v:Value)(w:World):Fr p m v v w w:=⟨rfl,rfl,rfl,Nat.le_refl _,fun _ _ _ _ _=>rfl,Or.inl rfl⟩
theorem Fr.trans (h:Fr p m v v' w w')(k:Fr p m v' v2 w' w2):Fr p m v v2 w w2:=
 ⟨k.os.trans h.os,k.tape.trans h.tape,k.output.trans h.output,Nat.le_trans h.size k.size,fun i hi h1 h2 h3=>(k.block i (Nat.lt_of_lt_of_le hi h.size) h1 h2 (fun e=>by
  rcases h.own with g|g
  ·rw [g] at e;exact h3 e
  ·have:=g i e.symm;omega)).trans (h.block i hi h1 h2 h3),by
  rcases k.own with g|g
  ·rw [g];exact h.own
  ·exact Or.inr fun x hx=>Nat.le_trans h.size (g x hx)⟩
theorem Fr.of_below (p m:Nat)(v:Value)(h:Below w.heap.size w w'):Fr p m v v w w':=⟨h.os,h.tape,h.output,h.size,fun i hi _ _ _=>h.block i hi,Or.inl rfl⟩
theorem Fr.below {N:Nat}(h:Fr p m v v' w w')(hw:N≤w.heap.size)(hp:N≤p)(hm:N≤m)(hv:∀g,v.ownBlock=some g→N≤g):Below N w w':=
 ⟨h.os,h.tape,h.output,h.size,fun i hi=>h.block i (by omega) (by omega) (by omega) (fun e=>by have:=hv i e.symm;omega)⟩
theorem Fr.grown {r:Nat}(v:Value)(h:w.grownBy w' (some r))(hr:r=p∨r=m):Fr p m v v w w':=⟨h.os,h.tape,h.output,h.size,fun i hi h1 h2 _=>h.block i hi (fun e=>by injection e with e;omega),Or.inl rfl⟩
theorem Bk.fr {g t:Nat}{l:List Value}(h:Bk w g t l)(hF:Fr p m v v' w w')(h1:g≠p)(h2:g≠m)(h3:some g≠v.ownBlock):Bk w' g t l:=(hF.block g h.lt h1 h2 h3).trans h
theorem CR.below (h:CR w p m B v c)(hb:Below w.heap.size w w'):CR w' p m B v c:=
 ⟨h.box.kept hb,own_keepN h.row hb,h.mp.below hb,h.pB,h.mB,h.pm,Nat.le_trans h.le hb.size⟩
theorem CR.drew (h:CR w p m B v c):CR w.drew p m B v c:=h.below (Below.refl _ _).drew
theorem CR.drewN (h:CR w p m B v c)(n:Nat):CR (w.drewN n) p m B v c:=h.below (below_drewN (Below.refl _ _) n)
theorem CR.cells (h:CR w p m B v c):w.cell? ⟨p,0,none⟩=some v∧w.cell? ⟨p,1,none⟩=some (.map (some m))∧p<w.heap.size∧w.frozen? ⟨p,0,none⟩=false:=
 ⟨h.box.cell 0 rfl,h.box.cell 1 rfl,h.box.lt,h.box.fz 0⟩
theorem CR.slice (h:CR w p m B v c):∃A cp,v=.slice A c.ins.length cp:=by obtain ⟨A,cp,e,_⟩:=own_typed h.row;exact ⟨A,cp,e⟩
end
theorem wpList_lookup_ok {H:Type}{P:Program}(w:World){ops:Array Oper}{rest:List Oper}{o:Oper}{a:Act}{Q:Exit→Act→World→Prop}
  (hg:o.guard=none) (m x:Operand) (t:TypeId) (hop:o.op=Op.lookup t m x true)
  (k e:TypeId) (K:Keyed P k) (ht:P.underlying t=some (.map k e)) (R:Value→Option (DataW H×List MemPlace)) {z:Value} (hz:(zeroValue e).run P w=.ok z w) {zd:DataW H} {zp:List MemPlace} (hzd:R z=some (zd,zp)) (b n:Nat) (D:DataW H)
  (hm:a.eval m=.map (some b)) (hown:w.ownsMap P k R b n D) (key:Value) (kl:Lit) (hx:a.eval x=key) (hkey:keyOf P k key=some kl) (bb:Bool) (hb:has D kl=bb)
  (hK:∀v ps,R v=some (D.atKey kl zd,ps)→wpList P ops Q rest (a.put o.dst (.tuple #[v,.bool bb])) w) :
  wpList P ops Q (o::rest) a w:=by
 refine wpList_plain hg fun K' hK'=>?_
 obtain ⟨v,ps,hrun,hat⟩:=hown.look_ok K ht hz hzd hkey
 rw [hb] at hrun
 unfold Oper.wp
 simp [execOp,hop,hm,hx,hrun,Result.andThen]
 exact hK' _ _ (hK v ps hat)
theorem NMap.look {w:World}{e:TypeId}{t:TypeId}{m:Nat}{o:List (Int×Int)}(he:Tryz.prog.underlying e=some (.int .i64))(ht:Tryz.prog.underlying t=some (.map 74 e))(hz:(zeroValue e).run Tryz.prog w=.ok (.int .i64 0) w)(h:NMap w e m o){n:Int}(h1:-9223372036854775808≤n)(h2:n≤9223372036854775807) :
  (Instr.lookup t (.map (some m)) (.int .i64 n) false).run Tryz.prog w=.ok (.int .i64 ((lk n o).getD 0)) w:=by
 obtain ⟨c,hrun,hat,_⟩:=World.ownsMap.lookup_int h nameKeyed ht he hz (keyOf_int_mk Tryz.underlying74 (wfI h1 h2))
 rw [mD_at] at hat
 rw [hrun]
 cases hl:lk n o with
 | none=>rw [hl] at hat;injection hat with hat;injection hat with _ hat;subst hat;rfl
 | some v=>rw [hl] at hat;injection hat with hat;injection hat with _ hat;subst hat;rfl
theorem there_any (w:World)(p m B:Nat)(v:Value)(c:CdM)(n:Int)(h:CR w p m B v c)(h1:-9223372036854775808≤n)(h2:n≤9223372036854775807) :
  Calls Tryz.prog 142 #[.pointer (some ⟨p,0,none⟩),.int .i64 n] w fun e w'=>e=.returned (.bool (lk n c.bh).isSome)∧w'=w:=by
 obtain ⟨k0,k1,kl,_⟩:=h.cells
 obtain ⟨bb,hbb⟩:∃bb,bb=(lk n c.bh).isSome:=⟨_,rfl⟩
 have hh:has (mD (c.bh.map bhI)) (.int .i64 n)=bb:=by rw [mD_has,lk_map,Option.isSome_map,hbb]
 rw [←hbb]
 have HM:=qd h.mp
 clear h hbb k0
 go_enter Tryz.func142,Tryz.ntmps142
 go_wp2_with (at_lookup;go_loud (refine wpList_lookup_ok _ rfl _ _ 169 rfl 74 3 nameKeyed Tryz.underlying169 (plainElem Tryz.prog 3) (Tryz.zeroValue3 _) (zd:=.lit (.int .i64 0)) (zp:=[]) (plainElem_int Tryz.underlying3 (by decide)) m _ _ rfl HM.out _ (.int .i64 n) rfl (keyOf_int_mk Tryz.underlying74 (wfI h1 h2)) bb hh ?_);intro v ps hv;clear hv)
 go_ret
 exact ⟨rfl,rfl⟩
theorem far_any (w:World)(p m B:Nat)(v:Value)(c:CdM)(n:Int)(b:Nat)(h:CR w p m B v c)(h1:-9223372036854775808≤n)(h2:n≤9223372036854775807)(hb:lk n c.bh=some b)(hbl:b≤c.ins.length)(hl:c.ins.length≤5000) :
  Calls Tryz.prog 165 #[.pointer (some ⟨p,0,none⟩),.int .i64 n] w fun e w'=>e=.returned (.int .i64 ((c.ins.length-b:Nat):Int))∧∃q,w'=w.drewN q:=by
 obtain ⟨A,cp,rfl⟩:=h.slice
 have k0:∀q,(w.drewN q).cell? ⟨p,0,none⟩=some (.slice A c.ins.length cp):=fun q=>(h.drewN q).cells.1
 have k1:∀q,(w.drewN q).cell? ⟨p,1,none⟩=some (.map (some m)):=fun q=>(h.drewN q).cells.2.1
 have kl:p<w.heap.size:=h.cells.2.2.1
 have hlk:∀q,(Instr.lookup 169 (.map (some m)) (.int .i64 n) false).run Tryz.prog (w.drewN q)=.ok (.int .i64 (b:Int)) (w.drewN q):=fun q=>by
  have:=NMap.look Tryz.underlying3 Tryz.underlying169 (Tryz.zeroValue3 _) (h.drewN q).mp h1 h2
  rw [lk_map,hb] at this
  exact this
 obtain ⟨z,hz⟩:∃z,z=c.ins.length:=⟨_,rfl⟩
 rw [←hz] at k0 hbl hl ⊢
 have e1:IntKind.i64.wrap ((z:Int)-(b:Int))=((z-b:Nat):Int):=by rw [IntKind.wrap_i64];omega
 clear h hb hz
 go_enter Tryz.func165,Tryz.ntmps165
 go_upto_region 1 with fail
 go_quiet (fail)
 go_wp2_with fail
 go_ret
 exact ⟨rfl,_,rfl⟩
end Go.Proofs.YtcnebdjhhfnmoaaGreatDoor.Ju
namespace Go.Proofs.YtcnebdjhhfnmoaaGreatDoor.Ju
open Go.RowKit Go.Maps Go.WideMaps Go.WideElems Go.ChangeMaps
theorem one_alloc (w:World)(o:Obj):Below w.heap.size w (w.alloc o):=(Below.refl w.heap.size w).alloc (Nat.le_refl _) o
def ClP (l:List PtM)(w:World)(e:Ending)(w':World):Prop:=
 ∃A cp,e=.returned (.slice A l.length cp)∧w'.ownsRow w.heap.size 78 7 (.slice A l.length cp) l.length (l.flatMap PtM.cells)∧Below w.heap.size w w'
theorem clone_any (l:List PtM)(n:Nat)(A:Option Addr)(cp:Nat)(w:World)(hl:l.length=n)(hr:Rd w 7 n A (l.flatMap PtM.cells))(hn:n≤65536)(hA:A=none→n=0) :
  Calls Tryz.prog 99 #[.slice A n cp] w (ClP l w):=by
 cases A with
 | none=>
  have h0:=hA rfl
  have hnil:=fun (w:World) (n c:Nat)=>Lib.run_eql_slice_nil (P:=Tryz.prog) w 67 78 none n c 0 0 Tryz.underlying67
  obtain rfl:l=[]:=List.length_eq_zero_iff.1 (by omega)
  clear hr hl hA hn
  go_enter Tryz.func99,Tryz.ntmps99
  go_wp2_with fail
  go_ret
  exact ⟨none,0,rfl,World.ownsRow_nil _ _ _ _,Below.refl _ _⟩
 | some a=>
  obtain ⟨i0,hi,hz0,hz1,hz2⟩:=info_parts infoPart
  have Hl:=qd hl
  have hlen:=flatz_len PtM.cells 7 (fun _=>rfl) l
  rw [hl] at hlen
  have Hlen:=qd hlen
  have Hcell:=qd (show ∀j u,(l.flatMap PtM.cells)[j]?=some u→w.cell? (a.add j)=some u from fun j u hu=>by
   rcases Nat.eq_zero_or_pos n with h0|h0
   ·have:=(List.getElem?_eq_some_iff.1 hu).1
    rw [hlen,h0] at this;omega
   ·obtain ⟨b,o,he,_,hc⟩:=hr.pos h0
    cases he
    rw [show (⟨b,o,none⟩:Addr).add j=⟨b,o+j,none⟩ by unfold Addr.add;split<;>simp_all]
    exact hc j u hu)
  have Hblk:=qd (show 0<n→a.block<w.heap.size from fun h0=>by
   obtain ⟨b,o,he,h1,hc⟩:=hr.pos h0
   cases he
   exact h1)
  clear hl hr hA
  have hnil:=fun (w:World) (a:Addr) (n c:Nat)=>Lib.run_eql_slice_nil (P:=Tryz.prog) w 67 78 (some a) n c 0 0 Tryz.underlying67
  go_enter Tryz.func99,Tryz.ntmps99
  have Hown:=qd (World.ownsRow_lit (base:=w.heap.size) (e:=78) (size:=7) w #[] 0 (Nat.le_refl _) (by unfold maxLen;omega) rfl)
  have Hc2:=qd (show ∀j u,(l.flatMap PtM.cells)[j]?=some u→(w.alloc (.cells #[] 78)).cell? (a.add j)=some u from fun j u hu=>by
   have h1:=Hcell.out j u hu
   have h2:=Hblk.out (by
    rcases Nat.eq_zero_or_pos n with h0|h0
    ·have:=(List.getElem?_eq_some_iff.1 hu).1
     rw [Hlen.out,h0] at this;omega
    ·exact h0)
   rw [←h1]
   exact (one_alloc w _).cell (p:=a.add j) (by unfold Addr.add;split<;>exact h2))
  have HB1:=qd (one_alloc w (.cells #[] 78))
  clear hlen
  go_wp2_with (at_builtin;refine wpList_append_own _ rfl (.tmp 5) (.tmp 6) 67 rfl w.heap.size 78 i0 _ 7 32 Tryz.underlying67 hi hz0 hz1 hz2 rfl (by decide) _ 0 [] rfl Hown.out a n cp (l.flatMap PtM.cells) rfl Hlen.out Hc2.out (fun u hu=>by obtain ⟨x,_,hx⟩:=List.mem_flatMap.1 hu;exact pt_one x u hx) (by unfold maxLen;omega) (by omega) HB1.out.size ?_;intro v' w4 hown' hgrow _;obtain ⟨A',c',rfl,hnc',-,-,-⟩:=own_typed hown';have Hw:=qd hown';clear hown')
  go_ret
  rw [Nat.zero_add] at *
  have hw:=Hw.out
  simp only [List.nil_append] at hw
  exact ⟨A',c',(by rw [Hl.out];rfl),(by rw [Hl.out];exact hw),HB1.out.grown hgrow HB1.out.size (fun k hk=>by cases hk;exact Nat.le_refl _)⟩
/-! Lists alone. -/
def endN:Nat→List (Int×Int)→Int→Int
 | 0,_,n=>n
 | k+1,o,n=>match lk n o with|none=>n|some t=>endN k o t
def endF (o:List (Int×Int))(n:Int):Int:=endN (cnt o) o n
def InR (n:Int):Prop:=-9223372036854775808≤n∧n≤9223372036854775807
def InO (o:List (Int×Int)):Prop:=∀e∈o,InR e.1∧InR e.2
theorem lk_in {β:Type}{n:Int}{v:β}:∀{o:List (Int×β)},lk n o=some v→(n,v)∈o
 | [],h=>by simp [lk] at h
 | (m,u)::o,h=>by
  rw [lk_cons] at h
  split at h
  ·rename_i e;subst e;cases h;exact List.mem_cons_self
  ·exact List.mem_cons_of_mem _ (lk_in h)
theorem endN_in {o:List (Int×Int)}(ho:InO o):∀(k:Nat) (n:Int),InR n→InR (endN k o n)
 | 0,_,h=>h
 | k+1,n,h=>by
  unfold endN
  cases hl:lk n o with
  | none=>exact h
  | some t=>exact endN_in ho k t (ho _ (lk_in hl)).2
theorem tidy_mD:∀o:List (Int×Int),Tidy (mD o)
 | []=>tidy_empty
 | _::o=>(tidy_mD o).put (show WideAt.IsKeyLit (Lit.int .i64 _) from trivial) _
theorem size_mD:∀o:List (Int×Int),Maps.size (mD o)=cnt o
 | []=>rfl
 | (n,v)::o=>by
  rw [mD_cons,size_put (tidy_mD o),mD_has,size_mD o]
  rfl
def gW (n:Int)(W:List (Int×Int)):Int:=(lk n W).getD 0
def cntW (p:PtM)(k:Int)(W:List (Int×Int)):List (Int×Int):=
 if p.kd=3 then (p.el,gW p.el ((p.tQ,gW p.tQ W+k)::W)+k)::(p.tQ,gW p.tQ W+k)::W
 else if p.kd=4 then (p.tQ,gW p.tQ W+k)::W else W
def SmW (b:Nat)(W:List (Int×Int)):Prop:=W.length≤b∧∀e∈W,InR e.1∧-(b:Int)≤e.2∧e.2≤b
theorem gW_sm {b:Nat}{W:List (Int×Int)}(h:SmW b W)(n:Int):-(b:Int)≤gW n W∧gW n W≤b:=by
 unfold gW
 cases hl:lk n W with
 | none=>simp only [Option.getD_none];omega
 | some v=>exact (h.2 _ (lk_in hl)).2
theorem SmW.push {b:Nat}{W:List (Int×Int)}(h:SmW b W){n k:Int}(hn:InR n)(hk:-1≤k∧k≤1):SmW (b+1) ((n,gW n W+k)::W):=by
 have hg:=gW_sm h n
 refine ⟨by simp [h.1],fun e he=>?_⟩
 rcases List.mem_cons.1 he with rfl|he
 ·exact ⟨hn,by simp only;omega,by simp only;omega⟩
 ·have:=h.2 e he;exact ⟨this.1,by omega,by omega⟩
theorem cntW_sm {b:Nat}{W:List (Int×Int)}(h:SmW b W){p:PtM}(hp:p.ok){k:Int}(hk:-1≤k∧k≤1):SmW (b+2) (cntW p k W):=by
 unfold cntW
 split
 ·exact (h.push ⟨hp.to1,hp.to2⟩ hk).push ⟨hp.el1,hp.el2⟩ hk
 ·split
  ·have:=h.push ⟨hp.to1,hp.to2⟩ hk
   exact ⟨by have:=this.1;omega,fun e he=>by have:=this.2 e he;exact ⟨this.1,by omega,by omega⟩⟩
  ·exact ⟨by have:=h.1;omega,fun e he=>by have:=h.2 e he;exact ⟨this.1,by omega,by omega⟩⟩
def endsB (p:PtM):Bool:=decide (p.kd=4∨p.kd=2∧p.i.c%8=6)
structure AlM where
 left:List PtM
 ended:Bool
 W:List (Int×Int)
def aliveS (s:AlM)(p:PtM):AlM:=
 if p.kd=1∧gW p.tQ s.W=0 then s
 else if s.ended=true∧p.kd≠1 then ⟨s.left,s.ended,cntW p (-1) s.W⟩
 else ⟨s.left++[p],endsB p,s.W⟩
def usesW (l:List PtM):List (Int×Int):=l.foldl (fun W p=>cntW p 1 W) []
def aliveF (l:List PtM):List PtM:=(l.foldl aliveS ⟨[],false,usesW l⟩).left
def cnB (n:Int):List PtM→Bool
 | []=>false
 | p::t=>if p.kd≠1 then false else if p.tQ=n then true else cnB n t
def leavF:List PtM→List PtM
 | []=>[]
 | p::t=>if p.kd=4∧cnB p.tQ t=true then leavF t else p::leavF t
def ledP (o:List (Int×Int))(p:PtM):PtM:=
 if p.kd=3 then ⟨p.kd,endF o p.tQ,endF o p.el,p.i⟩ else if p.kd=4 then ⟨p.kd,endF o p.tQ,p.el,p.i⟩ else p
structure LdM where
 l:List PtM
 o:List (Int×Int)
 nx:PtM
def zPt:PtM:=⟨0,0,0,⟨0,0,0,0⟩⟩
def leadS (s:LdM)(k:Nat):LdM:=
 match s.l[k]? with
 | none=>s
 | some p=>if p.kd=1 then (if s.nx.kd=4 then ⟨s.l,(p.tQ,s.nx.tQ)::s.o,s.nx⟩ else s) else ⟨s.l.set k (ledP s.o p),s.o,ledP s.o p⟩
def leadF (l:List PtM):List PtM:=((List.range l.length).reverse.foldl leadS ⟨l,[],zPt⟩).l
def roundF (l:List PtM):List PtM:=leavF (aliveF (leadF l))
def tidyN:Nat→List PtM→List PtM
 | 0,l=>l
 | k+1,l=>if (roundF l).length=l.length then roundF l else tidyN k (roundF l)
def tidyF (l:List PtM):List PtM:=tidyN (l.length+1) l
theorem leadS_len (s:LdM)(k:Nat):(leadS s k).l.length=s.l.length:=by
 unfold leadS
 split
 ·rfl
 ·split
  ·split<;>rfl
  ·simp
theorem leadL_len (ks:List Nat):∀s:LdM,(ks.foldl leadS s).l.length=s.l.length:=by
 induction ks with
 | nil=>intro s;rfl
 | cons k ks ih=>intro s;rw [List.foldl_cons,ih,leadS_len]
theorem leadF_len (l:List PtM):(leadF l).length=l.length:=leadL_len _ _
theorem aliveS_len (s:AlM)(p:PtM):(aliveS s p).left.length≤s.left.length+1:=by
 unfold aliveS
 split
 ·omega
 ·split<;>simp
theorem alive_len' (l:List PtM):∀s:AlM,(l.foldl aliveS s).left.length≤s.left.length+l.length:=by
 induction l with
 | nil=>intro s;simp
 | cons p l ih=>intro s;have:=ih (aliveS s p);have:=aliveS_len s p;rw [List.foldl_cons,List.length_cons];omega
theorem aliveF_len (l:List PtM):(aliveF l).length≤l.length:=by have:=alive_len' l ⟨[],false,usesW l⟩;simpa [aliveF] using this
theorem leavF_len:∀l:List PtM,(leavF l).length≤l.length
 | []=>Nat.le_refl _
 | p::t=>by unfold leavF;have:=leavF_len t;split<;>simp<;>omega
theorem roundF_len (l:List PtM):(roundF l).length≤l.length:=Nat.le_trans (leavF_len _) (Nat.le_trans (aliveF_len _) (Nat.le_of_eq (leadF_len l)))
theorem tidyN_more:∀(k j:Nat)(l:List PtM),l.length<k→l.length<j→tidyN k l=tidyN j l
 | 0,_,_,h,_=>by omega
 | _+1,0,_,_,h=>by omega
 | k+1,j+1,l,h1,h2=>by
  unfold tidyN
  by_cases e:(roundF l).length=l.length
  ·rw [if_pos e,if_pos e]
  ·rw [if_neg e,if_neg e]
   have:=roundF_len l
   exact tidyN_more k j _ (by omega) (by omega)
theorem tidyF_end {l:List PtM}(h:(roundF l).length=l.length):tidyF l=roundF l:=by unfold tidyF tidyN;rw [if_pos h]
theorem tidyF_on {l:List PtM}(h:(roundF l).length≠l.length):tidyF l=tidyF (roundF l):=by
 have:=roundF_len l
 unfold tidyF
 rw [tidyN,if_neg h]
 exact tidyN_more _ _ _ (by omega) (by omega)
/-! What may be. -/
theorem led_ok {o:List (Int×Int)}(ho:InO o){p:PtM}(hp:p.ok):(ledP o p).ok:=by
 have h1:=endN_in ho (cnt o) p.tQ ⟨hp.to1,hp.to2⟩
 have h2:=endN_in ho (cnt o) p.el ⟨hp.el1,hp.el2⟩
 unfold ledP
 split
 ·exact ⟨hp.kd,h1.1,h1.2,h2.1,h2.2,hp.i⟩
 ·split
  ·exact ⟨hp.kd,h1.1,h1.2,hp.el1,hp.el2,hp.i⟩
  ·exact hp
structure LdOk (s:LdM):Prop where
 l:∀p∈s.l,p.ok
 o:InO s.o
 nx:s.nx.ok
theorem leadS_ok {s:LdM}(h:LdOk s)(k:Nat):LdOk (leadS s k):=by
 unfold leadS
 split
 ·exact h
 ·rename_i p hp
  have hpo:=h.l p (List.mem_of_getElem? hp)
  split
  ·split
   ·refine ⟨h.l,fun e he=>?_,h.nx⟩
    rcases List.mem_cons.1 he with rfl|he
    ·exact ⟨⟨hpo.to1,hpo.to2⟩,⟨h.nx.to1,h.nx.to2⟩⟩
    ·exact h.o e he
   ·exact h
  ·refine ⟨fun q hq=>?_,h.o,led_ok h.o hpo⟩
   rcases List.mem_or_eq_of_mem_set hq with hq|rfl
   ·exact h.l q hq
   ·exact led_ok h.o hpo
theorem zPt_ok:zPt.ok:=⟨by decide,by decide,by decide,by decide,by decide,⟨by decide,by decide,by decide,by decide⟩⟩
theorem leadL_ok (ks:List Nat):∀{s:LdM},LdOk s→LdOk (ks.foldl leadS s):=by
 induction ks with
 | nil=>intro s h;exact h
 | cons k ks ih=>intro s h;exact ih (leadS_ok h k)
theorem leadF_ok {l:List PtM}(h:∀p∈l,p.ok):∀p∈leadF l,p.ok:=(leadL_ok _ (s:=⟨l,[],zPt⟩) ⟨h,fun e he=>by simp at he,zPt_ok⟩).l
theorem alive_sub (l:List PtM):∀(s:AlM),∀p∈(l.foldl aliveS s).left,p∈s.left∨p∈l:=by
 induction l with
 | nil=>intro s p h;exact Or.inl h
 | cons q l ih=>
  intro s p h
  rcases ih _ p h with h|h
  ·unfold aliveS at h
   split at h
   ·exact Or.inl h
   ·split at h
    ·exact Or.inl h
    ·rcases List.mem_append.1 h with h|h
     ·exact Or.inl h
     ·exact Or.inr (by rw [List.mem_singleton.1 h];exact List.mem_cons_self)
  ·exact Or.inr (List.mem_cons_of_mem _ h)
theorem aliveF_sub {l:List PtM}{p:PtM}(h:p∈aliveF l):p∈l:=by
 rcases alive_sub l _ p h with h|h
 ·simp at h
 ·exact h
theorem leavF_sub:∀{l:List PtM}{p:PtM},p∈leavF l→p∈l
 | [],_,h=>h
 | q::t,p,h=>by
  unfold leavF at h
  split at h
  ·exact List.mem_cons_of_mem _ (leavF_sub h)
  ·rcases List.mem_cons.1 h with rfl|h
   ·exact List.mem_cons_self
   ·exact List.mem_cons_of_mem _ (leavF_sub h)
theorem roundF_ok {l:List PtM}(h:∀p∈l,p.ok):∀p∈roundF l,p.ok:=fun p hp=>leadF_ok h p (aliveF_sub (leavF_sub hp))
end Go.Proofs.YtcnebdjhhfnmoaaGreatDoor.Ju
