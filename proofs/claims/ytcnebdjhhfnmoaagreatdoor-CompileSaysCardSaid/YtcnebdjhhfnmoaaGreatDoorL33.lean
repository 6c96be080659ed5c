/- The library's insertion sort at rules, laid. -/
import Derived.Shelf.SlSortCmp.InsertionK
import Derived.Ground.SlsfProg
import Derived.Test.YtcnebdjhhfnmoaaGreatDoorProg
import Derived.Test.YtcnebdjhhfnmoaaGreatDoorL32
import Derived.Test.YtcnebdjhhfnmoaaGreatDoorL18
import Derived.Test.YtcnebdjhhfnmoaaGreatDoorL01
import Derived.Laws.AppendOwn
import Derived.Test.YtcnebdjhhfnmoaaGreatDoorL21
import Derived.Test.YtcnebdjhhfnmoaaGreatDoorL22
set_option maxHeartbeats 32000000
set_option maxRecDepth 100000
namespace Go.Proofs
open Go.Shelf
def Tryz.insCalls_ren:Go.Shelf.Ren:=⟨fun|20=>136|n=>n,fun|24=>86|22=>24|3=>3|25=>163|4=>4|0=>0|n=>n,fun|n=>n⟩
theorem Tryz.insCalls:Go.Proofs.SlLaysF0.n20 Tryz.prog Tryz.insCalls_ren:={
 mixed:=by kernel_rfl
 f20:=⟨Tryz.f136.name,by decide,Tryz.func136.trans (congrArg some (by kernel_rfl))⟩
 t0:=Tryz.underlying0
 a0:=Tryz.isAgg0
 z0:=Tryz.sizeOf0
 v0:=Tryz.zeroValue0
 t3:=Tryz.underlying3
 a3:=Tryz.isAgg3
 z3:=Tryz.sizeOf3
 v3:=Tryz.zeroValue3
 t4:=Tryz.underlying4
 a4:=Tryz.isAgg4
 z4:=Tryz.sizeOf4
 v4:=Tryz.zeroValue4
 t22:=Tryz.underlying24
 a22:=Tryz.isAgg24
 z22:=Tryz.sizeOf24
 v22:=Tryz.zeroValue24
 t25:=Tryz.underlying163
 a25:=Tryz.isAgg163
 z25:=Tryz.sizeOf163
 v25:=Tryz.zeroValue163 }
end Go.Proofs
namespace Go.Proofs.YtcnebdjhhfnmoaaGreatDoor.Ir
open Go.Shelf Go.RowKit Go.Lib Go.Sort Go.Proofs.YtcnebdjhhfnmoaaGreatDoor.Rec
theorem rv_len (x:RV):(RV.enc x).length=3:=rfl
theorem rv_one (x:RV):∀v∈RV.enc x,v.oneCell'=true:=fun v hv=>by
 simp [RV.enc,RuleV.cells] at hv
 rcases hv with rfl|rfl|rfl<;>rfl
theorem flat3 (l:List RV)(i c:Nat)(hc:c<3)(hi:i<l.length):(l.flatMap RV.enc)[i*3+c]?=(RV.enc l[i])[c]?:=by
 induction l generalizing i with
 | nil=>simp at hi
 | cons x t ih=>
  cases i with
  | zero=>rw [List.flatMap_cons,List.getElem?_append_left (by rw [rv_len];omega)];simp
  | succ i=>
   rw [List.flatMap_cons,List.getElem?_append_right (by rw [rv_len];omega),rv_len,show (i+1)*3+c-3=i*3+c from by omega]
   simpa using ih i (by simpa using hi)
theorem holds_own {w:World}{g:Nat}{cur:Array Value}{e:TypeId}{l:List RV}(hb:w.heap[g]?=some (.cells cur e (0,0)))(ht:cur.toList.take (l.length*3)=l.flatMap RV.enc):Sort.HoldsK RV.enc 3 w g 0 l.toArray:=by
 intro t ht'
 have ht2:t<l.length*3:=by simpa using ht'
 refine ⟨?_,by simp [World.frozen?,hb]⟩
 have hq:t / 3<l.length:=by omega
 have hr:t%3<3:=Nat.mod_lt _ (by omega)
 rw [Sort.get_flatK _ _ _ _ (by simpa using ht2)]
 have h1:(cur.toList.take (l.length*3))[t]?=(l.flatMap RV.enc)[t]?:=by rw [ht]
 rw [List.getElem?_take_of_lt ht2] at h1
 have h2:=flat3 l (t / 3) (t%3) hr hq
 rw [show t / 3*3+t%3=t from by omega] at h2
 rw [h2] at h1
 have h3:l.toArray[t / 3]! = l[t / 3]:=by rw [getElem!_pos _ _ (by simpa using hq)];simp
 rw [h3,getElem!_pos _ _ (by rw [rv_len];exact hr)]
 simp only [World.cell?,hb,Nat.zero_add]
 simp only [Option.isSome_none,Bool.false_eq_true,if_false]
 rw [←Array.getElem?_toList,h1,List.getElem?_eq_getElem (by rw [rv_len];exact hr)]
 rfl
theorem sorted_below {w:World}{B g n:Nat}{os:Array Obj}(d:Array RV)(hg:B≤g)(hB:B≤w.heap.size):Go.RowKit.Below B w (sortWorldK RV.enc 3 w g 0 n d os):=by
 refine ⟨rfl,rfl,rfl,by simp [sortWorldK,Sort.grow,Sort.putRowK,Sort.putRow,Sort.mapBlock,Sort.ahead],fun k hk=>?_⟩
 have hne':g≠k:=by omega
 unfold sortWorldK
 rw [Sort.heap_grow_old _ _ (by simpa [Sort.putRowK,Sort.putRow,Sort.mapBlock,Sort.ahead] using (by omega:k<w.heap.size))]
 simp [Sort.putRowK,Sort.putRow,Sort.mapBlock,Sort.ahead,Array.getElem?_modify,hne']
theorem rd_holds {w:World}{g:Nat}{d:Array RV}(h:Sort.HoldsK RV.enc 3 w g 0 d)(hg:g<w.heap.size):Rd w 3 d.size (some ⟨g,0,none⟩) ((d.toList.map (·.1)).flatMap RuleV.cells):=by
 have e:(d.toList.map (·.1)).flatMap RuleV.cells=d.toList.flatMap RV.enc:=by rw [List.flatMap_map];rfl
 rw [e]
 have hl:(d.toList.flatMap RV.enc).length=d.size*3:=by
  rw [List.length_flatMap];simp only [rv_len,List.map_const',List.sum_replicate_nat,Array.length_toList]
 refine ⟨hl,Or.inr ⟨g,0,rfl,hg,fun j u hu=>?_⟩⟩
 have hj:j<d.size*3:=by rw [←hl];exact (List.getElem?_eq_some_iff.1 hu).1
 have h1:=(h j (by simpa using hj)).1
 rw [h1,Sort.get_flatK _ _ _ _ hj]
 have hq:j / 3<d.toList.length:=by simp;omega
 have hr:j%3<3:=Nat.mod_lt _ (by omega)
 have h2:=flat3 d.toList (j / 3) (j%3) hr hq
 rw [show j / 3*3+j%3=j from by omega,hu,List.getElem?_eq_getElem (by rw [rv_len];exact hr)] at h2
 have h3:d[j / 3]! = d.toList[j / 3]:=by rw [getElem!_pos d _ (by simpa using hq)];simp
 rw [h3,getElem!_pos _ _ (by rw [rv_len];exact hr)]
 exact h2.symm
structure Sorted (l l':List RuleM):Prop where
 len:l'.length=l.length
 mem:∀r∈l',r∈l
 srt:l'.Pairwise fun x y=>¬ordF y x<0
 stab:∀n s,l'.filter (fun r=>decide (r.num=n∧strN r.act=s))=l.filter (fun r=>decide (r.num=n∧strN r.act=s))
theorem ord_lt (a b:RuleM):ordF a b<0↔a.num<b.num∨a.num=b.num∧strN b.act<strN a.act:=by
 unfold ordF
 by_cases h1:a.num<b.num
 ·simp [h1]
 ·by_cases h2:b.num<a.num
  ·simp [h1,h2];omega
  ·by_cases h3:strN b.act<strN a.act
   ·simp [h1,h2,h3];omega
   ·by_cases h4:strN a.act<strN b.act<;>simp [h1,h2,h3,h4]
theorem sorted_of {l l':List RV}(h:Moved (ltOf cf) 0 l.length l.toArray l'.toArray)(hs:SortedIn (ltOf cf) 0 l.length l'.toArray):Sorted (l.map (·.1.m)) (l'.map (·.1.m))∧l'.length=l.length∧∀r∈l',r∈l:=by
 have hz:l'.length=l.length:=by simpa using h.size
 have hst:Stab (ltOf cf) l l':=by
  have:=h.stab
  simpa [seg,hz,List.take_of_length_le] using this
 have hsr:Srt (ltOf cf) l':=by
  have:=(seg_srt (lt:=ltOf cf) (d:=l'.toArray) (i:=0) (j:=l.length) (by simp [hz])).2 hs
  simpa [seg,←hz] using this
 refine ⟨⟨by simp [hz],fun r hr=>?_,?_,fun n s=>?_⟩,hz,fun r hr=>hst.mem swo hr⟩
 ·obtain ⟨x,hx,rfl⟩:=List.mem_map.1 hr
  exact List.mem_map.2 ⟨x,hst.mem swo hx,rfl⟩
 ·rw [List.pairwise_map]
  exact hsr.imp fun {x y} h=>of_decide_eq_false (show decide (ordF y.1.m x.1.m<0)=false from h)
 ·rw [List.filter_map,List.filter_map]
  by_cases hE:∃c:RV,c.1.m.num=n∧strN c.1.m.act=s
  ·obtain ⟨c,hc1,hc2⟩:=hE
   have e:((fun r:RuleM=>decide (r.num=n∧strN r.act=s))∘fun x:RV=>x.1.m)=eqv (ltOf cf) c:=by
    funext x
    have h1:=ord_lt c.1.m x.1.m
    have h2:=ord_lt x.1.m c.1.m
    simp only [Function.comp,eqv,ltOf,cf]
    rw [Bool.eq_iff_iff]
    simp only [decide_eq_true_iff,Bool.and_eq_true,Bool.not_eq_true',decide_eq_false_iff_not,h1,h2]
    omega
   rw [e,hst c]
  ·have e:∀x:RV,((fun r:RuleM=>decide (r.num=n∧strN r.act=s))∘fun x:RV=>x.1.m) x=false:=fun x=>by
    simp only [Function.comp,decide_eq_false_iff_not];exact fun hx=>hE ⟨x,hx⟩
   rw [List.filter_eq_nil_iff.2 (fun x _=>by rw [e x];decide),List.filter_eq_nil_iff.2 (fun x _=>by rw [e x];decide)]
theorem ins_none (p:Option Addr)(cap:Nat)(fv:Value)(w:World):Calls Tryz.prog 136 #[.slice p 0 cap,.int .i64 0,.int .i64 0,fv] w fun e w'=>e=.returned (.tuple #[])∧w'=w:=by
 go_enter Tryz.func136,Tryz.ntmps136
 go_wp2
 refine wp_loop_rounds 1 ?_
 rw [rounds_succ]
 go_wp2
 go_end0
 exact ⟨rfl,rfl⟩
theorem stable_none (p:Option Addr)(cap:Nat)(fv:Value)(w:World):Calls Tryz.prog 100 #[.slice p 0 cap,.int .i64 0,fv] w fun e w'=>e=.returned (.tuple #[])∧w'=w:=by
 have hi:=fun W=>ins_none p cap fv W
 go_enter Tryz.func100,Tryz.ntmps100
 go_wp2
 refine wp_loop_rounds 1 ?_
 rw [rounds_succ]
 go_wp2_with (go_at_call 136;refine (hi _).mono ?_;rintro e w1 ⟨rfl,rfl⟩)
 refine wp_loop_rounds 1 ?_
 rw [rounds_succ]
 go_wp2
 go_end0
 exact ⟨rfl,rfl⟩
theorem stable_rules (l:List RV)(g cap:Nat)(w:World)(hH:Sort.HoldsK RV.enc 3 w g 0 l.toArray)(hg:g<w.heap.size)(hn:l.length<2305843009213693952) :
  Calls Tryz.prog 100 #[.slice (some ⟨g,0,none⟩) l.length cap,.int .i64 l.length,.func (.func 57) #[] #[]] w fun e w'=>e=.returned (.tuple #[])∧∃l':List RV,Moved (ltOf cf) 0 l.length l.toArray l'.toArray∧SortedIn (ltOf cf) 0 l.length l'.toArray∧SWK RV.enc 3 w g 0 l'.toArray w':=by
 have eg:∀args w,(callFunc 57 args).run Tryz.prog w=.ok (.enter 57 args) w:=enters_of Tryz.func57 (by kernel_rfl) rfl
 have e57:∀args w,(callFunc 136 args).run Tryz.prog w=.ok (.enter 136 args) w:=enters_of Tryz.func136 (by kernel_rfl) rfl
 have R:RowK RV.enc 3 w g 0 l.toArray:=⟨rv_len,rv_one,hH,hg⟩
 have h:=stable_any Tryz.prog 3 pf_prog RV.enc cf swo 57 #[] g 0 cap l.toArray w eg (cmpLays g 0 _ w) R l.toArray w rfl (SWK.start hH) (by simpa using hn) (fun dk a b wk hdk S hab hb=>by
  have hs':(Sort.insertionSort (ltOf cf) dk a b).size=dk.size:=(insertionSort_holds swo dk a b hab (by omega)).1.1
  have h:=AnyQ.insertionSortCmpFunc Tryz.insCalls 3 Tryz.isAgg86 Tryz.sizeOf86 RV.enc rv_len rv_one cf 57 #[] g 0 cap a b dk wk eg (cmpLays g 0 _ wk) (S.holds hg hH (by rw [hdk])) (S.lt hg) hab (by omega) (by rw [hdk];simpa using (by omega:l.length<4611686018427387904))
  rw [hdk] at h
  refine Calls.mono h ?_
  rintro e w' ⟨rfl,n,os,rfl⟩
  exact ⟨rfl,S.on hg n _ os hs'⟩) e57
 simp only [List.size_toArray] at h
 refine Calls.mono h ?_
 rintro e w' ⟨rfl,d',h1,h2,h3⟩
 exact ⟨rfl,d'.toList,h1,h2,h3⟩
theorem sort_any (l:List RV)(n B:Nat)(A:Option Addr)(cp:Nat)(w:World)(hl:l.length=n)(hr:w.ownsRow B 86 3 (.slice A n cp) n (l.flatMap RV.enc))(hB:B≤w.heap.size)(hn:n≤65536) :
  Calls Tryz.prog 56 #[.slice A n cp,.func (.func 57) #[] #[]] w fun e w'=>e=.returned (.tuple #[])∧∃l':List RV,Sorted (l.map (·.1.m)) (l'.map (·.1.m))∧l'.length=n∧(∀r∈l',r∈l)∧Rd w' 3 n A ((l'.map (·.1)).flatMap RuleV.cells)∧Go.RowKit.Below B w w':=by
 subst hl
 obtain ⟨h1,⟨h2,h3⟩|⟨g,cap,cur,h2,h3,h4,h5,h6,h7,h8⟩⟩:=hr
 ·obtain rfl:l=[]:=List.length_eq_zero_iff.1 h3
  have hA:A=none:=by injection h2
  subst hA
  have hs:=fun W=>stable_none none cp (.func (.func 57) #[] #[]) W
  clear h1 h2 h3 hn
  show Calls Tryz.prog _ #[.slice none 0 cp,_] w _
  go_enter Tryz.func56,Tryz.ntmps56
  go_wp2_with (go_at_call 100;refine (hs _).mono ?_;rintro e w1 ⟨rfl,rfl⟩)
  go_end0
  exact ⟨rfl,[],⟨rfl,fun _ h=>h,List.Pairwise.nil,fun _ _=>rfl⟩,rfl,fun _ h=>h,⟨rfl,Or.inl rfl⟩,Go.RowKit.Below.refl _ _⟩
 ·obtain ⟨rfl,-,rfl⟩:A=some ⟨g,0,none⟩∧l.length=l.length∧cp=cap:=by injection h2 with a b c;exact ⟨a,rfl,c⟩
  have hg:g<w.heap.size:=by
   have:=(Array.getElem?_eq_some_iff.1 h4).1;exact this
  have hH:=holds_own h4 h8
  have hs:=fun W (h:W=w)=>stable_rules l g cp W (by rw [h];exact hH) (by rw [h];exact hg) (by omega)
  have hz:((l.length:Nat):Int)=(l.length:Int):=rfl
  have HP:∀(l':List RV) (w':World),Moved (ltOf cf) 0 l.length l.toArray l'.toArray→SortedIn (ltOf cf) 0 l.length l'.toArray→SWK RV.enc 3 w g 0 l'.toArray w'→∃l':List RV,Sorted (l.map (·.1.m)) (l'.map (·.1.m))∧l'.length=l.length∧(∀r∈l',r∈l)∧Rd w' 3 l.length (some ⟨g,0,none⟩) ((l'.map (·.1)).flatMap RuleV.cells)∧Go.RowKit.Below B w w':=fun l' w' hm hq hw=>by
   obtain ⟨a1,a2,a3⟩:=sorted_of hm hq
   refine ⟨l',a1,a2,a3,?_,?_⟩
   ·have:=rd_holds (hw.holds hg hH (by simp [a2])) (hw.lt hg)
    simpa [a2] using this
   ·obtain ⟨n,os,rfl⟩:=hw
    exact sorted_below _ h3 hB
  have HPH:=qd HP
  have HN:=qd hn
  clear h1 h2 h4 h5 h6 h7 h8 hH HP hB h3 hg hz
  generalize l.length=n at *
  go_enter Tryz.func56,Tryz.ntmps56
  go_wp2_with (go_at_call 100;refine (hs _ rfl).mono ?_;rintro e w1 ⟨rfl,l',q1,q2,q3⟩)
  go_end0
  exact ⟨rfl,HPH.out l' w1 q1 q2 q3⟩
end Go.Proofs.YtcnebdjhhfnmoaaGreatDoor.Ir
namespace Go.Proofs.YtcnebdjhhfnmoaaGreatDoor.Ir
open Go.RowKit
theorem one_alloc (w:World)(o:Obj):Below w.heap.size w (w.alloc o):=(Below.refl w.heap.size w).alloc (Nat.le_refl _) o
theorem infoClRule:(Tryz.prog.info? 86).map (fun i=>(i.zero,i.size,i.bytes))=some (some (.agg #[.int .u32 0,.int .u32 0,.slice none 0 0]),3,32):=by kernel_rfl
theorem clOneRule (l:List (RuleV)):∀u∈l.flatMap RuleV.cells,u.oneCell'=true:=by
 intro u hu
 obtain ⟨x,_,hx⟩:=List.mem_flatMap.1 hu
 simp only [RuleV.cells,List.mem_cons,List.not_mem_nil,or_false] at hx
 rcases hx with rfl|rfl|rfl<;>rfl
def ClPRule (l:List (RuleV))(w:World)(e:Ending)(w':World):Prop:=
 ∃A cp,e=.returned (.slice A l.length cp)∧w'.ownsRow w.heap.size 86 3 (.slice A l.length cp) l.length (l.flatMap RuleV.cells)∧Below w.heap.size w w'
theorem cloneRule_any (l:List (RuleV))(n:Nat)(A:Option Addr)(cp:Nat)(w:World)(hl:l.length=n)(hr:Rd w 3 n A (l.flatMap RuleV.cells))(hn:n≤65536)(hA:A=none→n=0) :
  Calls Tryz.prog 55 #[.slice A n cp] w (ClPRule l w):=by
 cases A with
 | none=>
  have h0:=hA rfl
  have hnil:=fun (w:World) (n c:Nat)=>Lib.run_eql_slice_nil (P:=Tryz.prog) w 24 86 none n c 0 0 Tryz.underlying24
  obtain rfl:l=[]:=List.length_eq_zero_iff.1 (by omega)
  clear hr hl hA hn
  go_enter Tryz.func55,Tryz.ntmps55
  go_wp2_with fail
  go_ret
  exact ⟨none,0,rfl,World.ownsRow_nil _ _ _ _,Below.refl _ _⟩
 | some a=>
  obtain ⟨i0,hi,hz0,hz1,hz2⟩:=info_parts infoClRule
  have Hl:=qd hl
  have hlen:=flatz_len RuleV.cells 3 (fun _=>rfl) l
  rw [hl] at hlen
  have Hlen:=qd hlen
  have Hcell:=qd (show ∀j u,(l.flatMap RuleV.cells)[j]?=some u→w.cell? (a.add j)=some u from fun j u hu=>by
   rcases Nat.eq_zero_or_pos n with h0|h0
   ·have:=(List.getElem?_eq_some_iff.1 hu).1
    rw [hlen,h0] at this;omega
   ·obtain ⟨b,o,he,_,hc⟩:=hr.pos h0
    cases he
    rw [show (⟨b,o,none⟩:Addr).add j=⟨b,o+j,none⟩ by unfold Addr.add;split<;>simp_all]
    exact hc j u hu)
  have Hblk:=qd (show 0<n→a.block<w.heap.size from fun h0=>by
   obtain ⟨b,o,he,h1,hc⟩:=hr.pos h0
   cases he
   exact h1)
  clear hl hr hA
  have hnil:=fun (w:World) (a:Addr) (n c:Nat)=>Lib.run_eql_slice_nil (P:=Tryz.prog) w 24 86 (some a) n c 0 0 Tryz.underlying24
  go_enter Tryz.func55,Tryz.ntmps55
  have Hown:=qd (World.ownsRow_lit (base:=w.heap.size) (e:=86) (size:=3) w #[] 0 (Nat.le_refl _) (by unfold maxLen;omega) rfl)
  have Hc2:=qd (show ∀j u,(l.flatMap RuleV.cells)[j]?=some u→(w.alloc (.cells #[] 86)).cell? (a.add j)=some u from fun j u hu=>by
   have h1:=Hcell.out j u hu
   have h2:=Hblk.out (by
    rcases Nat.eq_zero_or_pos n with h0|h0
    ·have:=(List.getElem?_eq_some_iff.1 hu).1
     rw [Hlen.out,h0] at this;omega
    ·exact h0)
   rw [←h1]
   exact (one_alloc w _).cell (p:=a.add j) (by unfold Addr.add;split<;>exact h2))
  have HB1:=qd (one_alloc w (.cells #[] 86))
  clear hlen
  go_wp2_with (at_builtin;refine wpList_append_own _ rfl (.tmp 5) (.tmp 6) 24 rfl w.heap.size 86 i0 _ 3 32 Tryz.underlying24 hi hz0 hz1 hz2 rfl (by decide) _ 0 [] rfl Hown.out a n cp (l.flatMap RuleV.cells) rfl Hlen.out Hc2.out (clOneRule l) (by unfold maxLen;omega) (by omega) HB1.out.size ?_;intro v' w4 hown' hgrow _;obtain ⟨A',c',rfl,hnc',-,-,-⟩:=own_typed hown';have Hw:=qd hown';clear hown')
  go_ret
  rw [Nat.zero_add] at *
  have hw:=Hw.out
  simp only [List.nil_append] at hw
  exact ⟨A',c',(by rw [Hl.out];rfl),(by rw [Hl.out];exact hw),HB1.out.grown hgrow HB1.out.size (fun k hk=>by cases hk;exact Nat.le_refl _)⟩
end Go.Proofs.YtcnebdjhhfnmoaaGreatDoor.Ir
namespace Go.Proofs.YtcnebdjhhfnmoaaGreatDoor.Me
open Go.RowKit Go.WideElems
theorem infoInt:(Tryz.prog.info? 3).map (fun i=>(i.zero,i.size,i.bytes))=some (some (.int .i64 0),1,8):=by kernel_rfl
def natC (i:Nat):List Value:=[.int .i64 i]
theorem stg2_any (a b:Nat)(w:World)(ha:a<4294967296)(hb:b<4294967296):Calls Tryz.prog 90 #[.int .u32 a,.int .u32 b] w (Same9 (.bool (decide (Rec.strN b<Rec.strN a))) w):=by
 have Hs:=qd (fun W=>Rec.stronger_any b a W hb ha)
 by_cases h:Rec.strN b<Rec.strN a
 ·have e:Rec.stg b a=a:=by unfold Rec.stg;rw [if_pos h]
  have hne:((a:Int) != (b:Int))=true:=bne_t (by rintro rfl;omega)
  rw [e] at Hs
  rw [decide_eq_true h]
  clear h e
  go_enter Tryz.func90,Tryz.ntmps90
  go_wp2_with fail
  refine (Hs.out _).mono ?_
  rintro e w' ⟨rfl,rfl⟩
  go_wp2_with fail
  go_ret
  exact ⟨rfl,rfl⟩
 ·have e:Rec.stg b a=b:=by unfold Rec.stg;rw [if_neg h]
  have hne:((b:Int) != (b:Int))=false:=by simp
  rw [e] at Hs
  rw [decide_eq_false h]
  clear h e
  go_enter Tryz.func90,Tryz.ntmps90
  go_wp2_with fail
  refine (Hs.out _).mono ?_
  rintro e w' ⟨rfl,rfl⟩
  go_wp2_with fail
  go_ret
  exact ⟨rfl,rfl⟩
structure RRd (w:World)(rules:List RuleV)(A:Option Addr):Prop where
 r:Rd w 3 rules.length A (rules.flatMap RuleV.cells)
 c:∀x∈rules,Rd w 4 x.m.conds.length x.A (x.m.conds.flatMap CondM.cells)
 ok:∀x∈rules,x.m.ok
theorem RRd.below {w w':World}{rules:List RuleV}{A:Option Addr}(h:RRd w rules A)(hb:Below w.heap.size w w'):RRd w' rules A:=⟨h.r.below hb,fun x hx=>(h.c x hx).below hb,h.ok⟩
def SpkPost (ms:List RuleM)(x:RcM)(w:World)(e:Ending)(w':World):Prop:=
 (∃(A:Option Addr) (c:Nat),e=.returned (.tuple #[.slice A (idxL x 0 ms).length c,.int .i64 (bestI (bestL x 0 ms none))])∧TRd w' 3 1 (idxL x 0 ms).length A ((idxL x 0 ms).flatMap natC))∧Below w.heap.size w w'
theorem own_len {w:World}{B:Nat}{e:TypeId}{v:Value}{l m:List Nat}(h:l=m)(ho:w.ownsRow B e 1 v l.length (l.flatMap natC)):w.ownsRow B e 1 v m.length (m.flatMap natC):=by subst h;exact ho
theorem spk_end {ms:List RuleM}{x:RcM}{w w2 wr:World}{v:Value}{k:Nat}{b:Option (Nat×Nat)}(hk:ms.length≤k)(ho:wr.ownsRow w2.heap.size 3 1 v (idxL x 0 (ms.take k)).length ((idxL x 0 (ms.take k)).flatMap natC))(hb:bestL x 0 ms none=bestL x k (ms.drop k) b)(h2:Below w.heap.size w wr):SpkPost ms x w (.returned (.tuple #[v,.int .i64 (bestI b)])) wr:=by
 rw [List.take_of_length_le hk] at ho
 rw [best_end x hk] at hb
 obtain ⟨A,c,rfl,_,ht,_,_⟩:=own_typed ho
 exact ⟨⟨A,c,by rw [hb],ht⟩,h2⟩
theorem step_no {x:RcM}{k:Nat}{r:RuleM}{b:Option (Nat×Nat)}(h:matB r x=false):stepB x k r b=b:=by unfold stepB;rw [h];rfl
theorem step_none {x:RcM}{k:Nat}{r:RuleM}(h:matB r x=true):stepB x k r none=some (k,r.act):=by unfold stepB;rw [h];rfl
theorem step_yes {x:RcM}{k i a:Nat}{r:RuleM}(h:matB r x=true)(hs:Rec.strN a<Rec.strN r.act):stepB x k r (some (i,a))=some (k,r.act):=by unfold stepB;rw [h];simp [hs]
theorem step_same {x:RcM}{k i a:Nat}{r:RuleM}(h:matB r x=true)(hs:¬Rec.strN a<Rec.strN r.act):stepB x k r (some (i,a))=some (i,a):=by unfold stepB;rw [h];simp [hs]
theorem idx_no {x:RcM}{ms:List RuleM}{k:Nat}{r:RuleM}(h:ms[k]?=some r)(hm:matB r x=false):idxL x 0 (ms.take k)=idxL x 0 (ms.take (k+1)):=by rw [idx_take x h,hm];simp
theorem idx_yes {x:RcM}{ms:List RuleM}{k:Nat}{r:RuleM}(h:ms[k]?=some r)(hm:matB r x=true):idxL x 0 (ms.take (k+1))=idxL x 0 (ms.take k)++[k]:=by rw [idx_take x h,hm];rfl
theorem own_yes {x:RcM}{ms:List RuleM}{k:Nat}{r:RuleM}{w:World}{B:Nat}{e:TypeId}{v:Value}(h:ms[k]?=some r)(hm:matB r x=true)(ho:w.ownsRow B e 1 v ((idxL x 0 (ms.take k)).length+1) ((idxL x 0 (ms.take k)).flatMap natC++[.int .i64 k])):w.ownsRow B e 1 v (idxL x 0 (ms.take (k+1))).length ((idxL x 0 (ms.take (k+1))).flatMap natC):=by
 rw [idx_yes h hm,List.length_append,List.flatMap_append];exact ho
theorem speaks_any (nm:ByteArray)(d:Nat)(rules:List RuleV)(RA:Option Addr)(nR Rc hd:Nat)(PA:Option Addr)(nP Pc:Nat)(QA:Option Addr)(nQ Qc:Nat)(x:RcM)(w:World)(hn:rules.length=nR)(hl:nR≤1000)(hR:RRd w rules RA)(hx:x.ok) :
  Calls Tryz.prog 47 #[.agg #[.string nm,.int .u32 d,.slice RA nR Rc,.int .u16 hd,.slice PA nP Pc,.slice QA nQ Qc],.agg #[.int .u32 x.num,.int .u32 x.arch,.int .u64 x.at_,.int .u64 x.a0,.int .u64 x.a1,.int .u64 x.a2,.int .u64 x.a3,.int .u64 x.a4,.int .u64 x.a5]] w (SpkPost (rules.map RuleV.m) x w):=by
 obtain ⟨hk1,hk2,hb⟩:=two_new w #[.string nm,.int .u32 d,.slice RA nR Rc,.int .u16 hd,.slice PA nP Pc,.slice QA nQ Qc] #[.int .u32 x.num,.int .u32 x.arch,.int .u64 x.at_,.int .u64 x.a0,.int .u64 x.a1,.int .u64 x.a2,.int .u64 x.a3,.int .u64 x.a4,.int .u64 x.a5] 30 60 (la:=[.string nm,.int .u32 d,.slice RA nR Rc,.int .u16 hd,.slice PA nP Pc,.slice QA nQ Qc]) (lb:=x.cells) rfl rfl
 have HR:=qd (hR.below hb)
 obtain ⟨ms,hms⟩:∃ms,ms=rules.map RuleV.m:=⟨_,rfl⟩
 have Hms:=qd hms
 have HN:=qd hn
 have HL:=qd (show ms.length=nR by rw [hms,List.length_map,hn])
 rw [←hms]
 have HX:=qd hx
 clear hR hms hn hx
 go_enter Tryz.func47,Tryz.ntmps47
 go_upto_region 1 with fail
 have hsz:((w.alloc (.cells #[.string nm,.int .u32 d,.slice RA nR Rc,.int .u16 hd,.slice PA nP Pc,.slice QA nQ Qc] 30)).alloc (.cells #[.int .u32 x.num,.int .u32 x.arch,.int .u64 x.at_,.int .u64 x.a0,.int .u64 x.a1,.int .u64 x.a2,.int .u64 x.a3,.int .u64 x.a4,.int .u64 x.a5] 60)).heap.size=w.heap.size+1+1:=by simp
 generalize (w.alloc _).alloc _=w2 at hk1 hk2 hb hsz HR ⊢
 have HB0:=qd hb
 have q2:=hk1.cell 2 rfl
 have hlt1:=hk1.lt
 have hlt2:=hk2.lt
 have HK1:=qd hk1
 have HK2:=qd hk2
 clear hk1 hk2 hb
 go_wp2_with fail
 clear q2
 have HO0:=qd (World.ownsRow_nil w2 w2.heap.size 3 1)
 go_loopw [4,5,11] (fun v c iv wr=>∃(k:Nat) (b:Option (Nat×Nat)),iv=.int .i64 k∧k≤nR∧c=.int .i64 (bestI b)∧Hid (wr.ownsRow w2.heap.size 3 1 v (idxL x 0 (ms.take k)).length ((idxL x 0 (ms.take k)).flatMap natC))∧Hid (bestL x 0 ms none=bestL x k (ms.drop k) b)∧Hid (BOk ms k b)∧Hid (Below w2.heap.size w2 wr)) (fun _ _ iv _=>nR-(intOf iv).toNat)
 case atStart=>exact ⟨0,none,rfl,Nat.zero_le _,rfl,HO0,qd rfl,qd (BOk.nil _),Below.refl _ _⟩
 case round=>
  obtain ⟨k,b,rfl,hk,rfl,HO,HBe,HOk,HB⟩:=hrel
  have hs:=HB.out.size
  have hlw1:=Nat.lt_of_lt_of_le hlt1 hs
  have hlw2:=Nat.lt_of_lt_of_le hlt2 hs
  by_cases hlt:k<nR
  ·obtain ⟨r,hr⟩:∃r,rules[k]?=some r:=⟨_,List.getElem?_eq_getElem (by have:=HN.out;omega)⟩
   have HRr:=qd (HR.out.below HB.out)
   have hrd:=HRr.out.r
   simp only [HN.out] at hrd
   obtain ⟨bb,ob,hA,hbl,hcell⟩:=hrd.one (fun _=>rfl) (by omega) (by omega)
   subst hA
   obtain ⟨c0,c1,c2⟩:=rule_cells hcell hr
   have HCell:=qd hcell
   have hmem:=List.mem_of_getElem? hr
   have HMk:=qd (show ms[k]?=some r.m by rw [Hms.out,List.getElem?_map,hr];rfl)
   have HCr:=qd (HRr.out.c r hmem)
   have HOr:=qd (HRr.out.ok r hmem)
   clear hcell hrd hmem hr
   obtain ⟨⟨num,act,cs⟩,A9,c9⟩:=r
   simp only at c0 c1 c2
   obtain ⟨nc,hnc⟩:∃nc,nc=cs.length:=⟨_,rfl⟩
   rw [←hnc] at c2
   have HNc:=qd hnc
   clear hnc
   go_upto_region 5 with fail
   have hkr:=Bk.new wr 86 #[.int .u32 num,.int .u32 act,.slice A9 nc c9] (l:=[.int .u32 num,.int .u32 act,.slice A9 nc c9]) rfl
   have hbr:=oneb wr (.cells #[.int .u32 num,.int .u32 act,.slice A9 nc c9] 86)
   clear c0 c1 c2
   generalize wr.alloc _=wa at hkr hbr ⊢
   have hsa:=hbr.size
   have HBa:=qd (HB.out.trans (hbr.mono HB.out.size))
   have HOa:=qd (own_keepN HO.out hbr)
   have HRa:=qd (HRr.out.below hbr)
   have HCa:=qd (HCr.out.below hbr)
   have HKa:=qd hkr
   have r0:=hkr.cell 0 rfl
   have r1:=hkr.cell 1 rfl
   have r2:=hkr.cell 2 rfl
   have rl:=hkr.lt
   have y0:=(HK2.out.kept HBa.out).cell 0 rfl
   have y1:=(HK2.out.kept HBa.out).cell 1 rfl
   have y2:=(HK2.out.kept HBa.out).cell 2 rfl
   have y3:=(HK2.out.kept HBa.out).cell 3 rfl
   have y4:=(HK2.out.kept HBa.out).cell 4 rfl
   have y5:=(HK2.out.kept HBa.out).cell 5 rfl
   have y6:=(HK2.out.kept HBa.out).cell 6 rfl
   have y7:=(HK2.out.kept HBa.out).cell 7 rfl
   have y8:=(HK2.out.kept HBa.out).cell 8 rfl
   have la1:=(HK1.out.kept HBa.out).lt
   have la2:=(HK2.out.kept HBa.out).lt
   clear hkr hbr HO HRr HCr
   generalize wr.heap.size=g at r0 r1 r2 rl hsa HKa ⊢
   have hmt:=qd (fun W h=>matches_any num act cs A9 nc c9 x W HOr.out.2.2.2 HNc.out.symm (by have:=HOr.out.2.2.1;rw [HNc.out];exact this) h HX.out)
   go_wp2_with fail
   refine (hmt.out _ (by have:=HCa.out;rw [HNc.out];exact this)).mono ?_
   clear hmt r0 r1 r2 y0 y1 y2 y3 y4 y5 y6 y7 y8
   rintro e w3 ⟨rfl,hb3⟩
   have HB3:=qd (HBa.out.trans (hb3.mono HBa.out.size))
   have HO3:=qd (own_keepN HOa.out hb3)
   have HG3:=qd (HKa.out.kept hb3)
   have HR3:=qd (HRa.out.below hb3)
   clear hb3 HOa HKa HBa HRa HCa
   cases hmm:matB ⟨num,act,cs⟩ x with
   | false=>
    have HF:=qd hmm
    clear hmm
    go_wp2_with fail
    go_roundw
    case rel=>exact ⟨k+1,b,by go_num,by omega,rfl,qd (own_len (idx_no HMk.out HF.out) HO3.out),qd (by rw [HBe.out,best_on x HMk.out,step_no HF.out]),qd (by have:=HOk.out.step HMk.out x;rw [step_no HF.out] at this;exact this),HB3⟩
    case measure=>simp [intOf];omega
   | true=>
    have Hmm:=qd hmm
    clear hmm
    cases b with
    | none=>
     unfold bestI
     go_wp2_with (at_builtin;go_loud (refine append_one rfl (.tmp 20) (.tmp 22) 147 3 rfl (.int .i64 0) 1 8 infoInt Tryz.underlying147 rfl (by decide) (by decide) w2.heap.size _ (idxL x 0 (ms.take k)).length ((idxL x 0 (ms.take k)).flatMap natC) rfl (own_keepN HO3.out (oneb w3 _)) w3.heap.size [.int .i64 k] rfl rfl (Bk.new w3 _ _ rfl) (by intro u hu;simp at hu;subst hu;rfl) (Nat.le_trans (idx_len x _ _) (by rw [List.length_take];omega)) (by have:=HB3.out.size;simp;omega) ?_);intro v' w8 hown' hgrow hat;have hoa:=own_keepN HO3.out (oneb w3 (.cells #[.int .i64 k] 3));obtain ⟨_,_,_,_,_,hty,_⟩:=own_typed hoa;have hba:=(HB3.out.trans ((oneb w3 (.cells #[.int .i64 k] 3)).mono HB3.out.size)).grown hgrow (Nat.le_trans HB3.out.size (by simp)) (fun g hg=>(hoa.lt g hg).1);have HB8:=qd hba;have HO8:=qd (own_yes HMk.out Hmm.out hown');have HG8:=qd ((HG3.out.kept (oneb w3 (.cells #[.int .i64 k] 3))).appended hgrow hty (by decide));have g7:=HG8.out.cell 1 rfl;have l7:=HG8.out.lt;have p7:=(HK1.out.kept HB8.out).cell 2 rfl;have pl7:=(HK1.out.kept HB8.out).lt;have dn:decide ((-1:Int)<0)=true:=(by decide);clear hown' hgrow hat hoa hty hba)
     go_quiet (fail)
     go_wp2_with fail
     go_roundw
     case rel=>exact ⟨k+1,some (k,act),by go_num,by omega,rfl,qd (own_keepN HO8.out (below_drewN (Below.refl _ _) _)),qd (by rw [HBe.out,best_on x HMk.out,step_none Hmm.out]),qd (by have:=HOk.out.step HMk.out x;rw [step_none Hmm.out] at this;exact this),qd (below_drewN HB8.out _)⟩
     case measure=>simp [intOf];omega
    | some y=>
     obtain ⟨i,a⟩:=y
     obtain ⟨hik,ri,hri,hra⟩:=HOk.out (i,a) rfl
     simp only at hik hri hra
     obtain ⟨rv,hrv,hrm⟩:∃rv,rules[i]?=some rv∧rv.m=ri:=by rw [Hms.out,List.getElem?_map] at hri;obtain ⟨rv,h1,h2⟩:=Option.map_eq_some_iff.1 hri;exact ⟨rv,h1,h2⟩
     have ha32:a<4294967296:=by have:=(HR.out.ok rv (List.mem_of_getElem? hrv)).2.1;rw [hrm,hra] at this;exact this
     have hact32:act<4294967296:=HOr.out.2.1
     have HCi:=qd (show ∀W,Below wr.heap.size wr W→True from fun _ _=>trivial)
     have Hcell:=qd (show ∀W,Below w2.heap.size w2 W→W.cell? ⟨bb,ob+i*3+1,none⟩=some (.int .u32 a) from fun W hW=>by
      have hrd:=(HR.out.below hW).r
      obtain ⟨b2,o2,hA2,_,hc2⟩:=hrd.one (fun _=>rfl) (by omega) (by have:=HN.out;omega)
      cases hA2
      have:=(rule_cells hc2 hrv).2.1
      rw [hrm,hra] at this
      exact this)
     have hq:=qd (fun W=>stg2_any act a W hact32 ha32)
     have hi0:decide ((i:Int)<0)=false:=decide_eq_false (by omega)
     have hin:i<nR:=by omega
     clear hri hra hrv hrm HCi
     by_cases hst:Rec.strN a<Rec.strN act
     ·have HST:=qd hst
      rw [decide_eq_true hst] at hq
      clear hst
      unfold bestI
      go_wp2_with (at_builtin;go_loud (refine append_one rfl (.tmp 20) (.tmp 22) 147 3 rfl (.int .i64 0) 1 8 infoInt Tryz.underlying147 rfl (by decide) (by decide) w2.heap.size _ (idxL x 0 (ms.take k)).length ((idxL x 0 (ms.take k)).flatMap natC) rfl (own_keepN HO3.out (oneb w3 _)) w3.heap.size [.int .i64 k] rfl rfl (Bk.new w3 _ _ rfl) (by intro u hu;simp at hu;subst hu;rfl) (Nat.le_trans (idx_len x _ _) (by rw [List.length_take];omega)) (by have:=HB3.out.size;simp;omega) ?_);intro v' w8 hown' hgrow hat;have hoa:=own_keepN HO3.out (oneb w3 (.cells #[.int .i64 k] 3));obtain ⟨_,_,_,_,_,hty,_⟩:=own_typed hoa;have hba:=(HB3.out.trans ((oneb w3 (.cells #[.int .i64 k] 3)).mono HB3.out.size)).grown hgrow (Nat.le_trans HB3.out.size (by simp)) (fun g hg=>(hoa.lt g hg).1);have HB8:=qd hba;have HO8:=qd (own_yes HMk.out Hmm.out hown');have HG8:=qd ((HG3.out.kept (oneb w3 (.cells #[.int .i64 k] 3))).appended hgrow hty (by decide));have g7:=HG8.out.cell 1 rfl;have l7:=HG8.out.lt;have p7:=(HK1.out.kept HB8.out).cell 2 rfl;have pl7:=(HK1.out.kept HB8.out).lt;have i7:=Hcell.out _ HB8.out;clear hown' hgrow hat hoa hty hba)
      go_quiet ((go_at_call 90;exact quiet_l (hq.out _)))
      go_wp2_with fail
      go_roundw
      case rel=>exact ⟨k+1,some (k,act),by go_num,by omega,rfl,qd (own_keepN HO8.out (below_drewN (Below.refl _ _) _)),qd (by rw [HBe.out,best_on x HMk.out,step_yes Hmm.out HST.out]),qd (by have:=HOk.out.step HMk.out x;rw [step_yes Hmm.out HST.out] at this;exact this),qd (below_drewN HB8.out _)⟩
      case measure=>simp [intOf];omega
     ·have HST:=qd hst
      rw [decide_eq_false hst] at hq
      clear hst
      unfold bestI
      go_wp2_with (at_builtin;go_loud (refine append_one rfl (.tmp 20) (.tmp 22) 147 3 rfl (.int .i64 0) 1 8 infoInt Tryz.underlying147 rfl (by decide) (by decide) w2.heap.size _ (idxL x 0 (ms.take k)).length ((idxL x 0 (ms.take k)).flatMap natC) rfl (own_keepN HO3.out (oneb w3 _)) w3.heap.size [.int .i64 k] rfl rfl (Bk.new w3 _ _ rfl) (by intro u hu;simp at hu;subst hu;rfl) (Nat.le_trans (idx_len x _ _) (by rw [List.length_take];omega)) (by have:=HB3.out.size;simp;omega) ?_);intro v' w8 hown' hgrow hat;have hoa:=own_keepN HO3.out (oneb w3 (.cells #[.int .i64 k] 3));obtain ⟨_,_,_,_,_,hty,_⟩:=own_typed hoa;have hba:=(HB3.out.trans ((oneb w3 (.cells #[.int .i64 k] 3)).mono HB3.out.size)).grown hgrow (Nat.le_trans HB3.out.size (by simp)) (fun g hg=>(hoa.lt g hg).1);have HB8:=qd hba;have HO8:=qd (own_yes HMk.out Hmm.out hown');have HG8:=qd ((HG3.out.kept (oneb w3 (.cells #[.int .i64 k] 3))).appended hgrow hty (by decide));have g7:=HG8.out.cell 1 rfl;have l7:=HG8.out.lt;have p7:=(HK1.out.kept HB8.out).cell 2 rfl;have pl7:=(HK1.out.kept HB8.out).lt;have i7:=Hcell.out _ HB8.out;clear hown' hgrow hat hoa hty hba)
      go_quiet ((go_at_call 90;exact quiet_l (hq.out _)))
      go_wp2_with fail
      go_roundw
      case rel=>exact ⟨k+1,some (i,a),by go_num,by omega,rfl,qd (own_keepN HO8.out (below_drewN (Below.refl _ _) _)),qd (by rw [HBe.out,best_on x HMk.out,step_same Hmm.out HST.out]),qd (by have:=HOk.out.step HMk.out x;rw [step_same Hmm.out HST.out] at this;exact this),qd (below_drewN HB8.out _)⟩
      case measure=>simp [intOf];omega
  ·have HE:=qd (fun W (hW:Below w2.heap.size w2 W) (hq:W=wr)=>spk_end (w:=w) (wr:=wr) (by rw [HL.out];omega) HO.out HBe.out (HB0.out.trans (HB.out.mono HB0.out.size)))
   go_wp2_with fail
   go_ret2
   exact HE.out wr HB.out rfl
end Go.Proofs.YtcnebdjhhfnmoaaGreatDoor.Me
