/- Tidy's small walks: ends, comesNext, end, count. -/
import Derived.Test.YtcnebdjhhfnmoaaGreatDoorL04
import Derived.Test.YtcnebdjhhfnmoaaGreatDoorL01
set_option maxHeartbeats 32000000
set_option maxRecDepth 100000
namespace Go.Proofs.YtcnebdjhhfnmoaaGreatDoor.Ju
open Go.RowKit Go.Maps Go.WideMaps Go.WideElems Go.ChangeMaps
theorem ends_any (q:PtM)(w:World)(hq:q.ok):Calls Tryz.prog 148 #[.agg #[.int .u8 q.kd,.int .i64 q.tQ,.int .i64 q.el,.int .u16 q.i.c,.int .u8 q.i.t,.int .u8 q.i.f,.int .u32 q.i.k]] w fun e w'=>e=.returned (.bool (endsB q))∧Below w.heap.size w w':=by
 have HCl:=qd (fun W=>class_any q.i.c W hq.i.1)
 obtain ⟨W,hW⟩:∃W,W=w.alloc (.cells #[.int .u8 q.kd,.int .i64 q.tQ,.int .i64 q.el,.int .u16 q.i.c,.int .u8 q.i.t,.int .u8 q.i.f,.int .u32 q.i.k] 78):=⟨_,rfl⟩
 have hbx:Bk W w.heap.size 78 q.cells:=by rw [hW];exact Bk.new w _ _ rfl
 have hb1:Below w.heap.size w W:=by rw [hW];exact oneb w _
 have HB:=qd hb1
 have HBx:=qd hbx
 go_enter Tryz.func148,Tryz.ntmps148
 go_upto_region 1 with fail
 rw [←hW]
 clear hW hb1 hbx
 generalize hxb:w.heap.size=xb at *
 have HXB:=qd hxb
 clear hxb
 have y0:=HBx.out.cell 0 rfl
 have y3:=HBx.out.cell 3 rfl
 have yl:=HBx.out.lt
 obtain ⟨z,hz⟩:∃z,z=q.i.c%8:=⟨_,rfl⟩
 rw [←hz] at HCl
 by_cases h4:q.kd=4
 ·have e4:((q.kd:Int)==4)=true:=by rw [h4];rfl
  have HV:=qd (show endsB q=true by unfold endsB;simp [h4])
  clear h4 hz
  go_wp2_with fail
  go_ret
  rw [HV.out]
  exact ⟨rfl,by rw [HXB.out];exact HB.out⟩
 have e4:((q.kd:Int)==4)=false:=by rw [beq_eq_false_iff_ne];omega
 by_cases h2:q.kd=2
 ·have e2:((q.kd:Int)==2)=true:=by rw [h2];rfl
  obtain ⟨bb,hbb⟩:∃bb,bb=decide (z=6):=⟨_,rfl⟩
  have e6:((z:Int)==6)=bb:=by
   rw [hbb,Bool.eq_iff_iff,beq_iff_eq,decide_eq_true_eq];omega
  have HV:=qd (show endsB q=bb by unfold endsB;rw [hbb,hz];simp [h2])
  clear h4 h2 hz hbb
  go_wp2_with fail
  refine (HCl.out _).mono ?_
  rintro e w1 ⟨rfl,rfl⟩
  go_wp2_with fail
  go_ret
  rw [HV.out]
  exact ⟨rfl,by rw [HXB.out];exact HB.out⟩
 have e2:((q.kd:Int)==2)=false:=by rw [beq_eq_false_iff_ne];omega
 have HV:=qd (show endsB q=false by unfold endsB;simp [h4,h2])
 clear h4 h2 hz
 go_wp2_with fail
 go_ret
 rw [HV.out]
 exact ⟨rfl,by rw [HXB.out];exact HB.out⟩
theorem comes_any (l:List PtM)(n:Nat)(A:Option Addr)(cap:Nat)(x:Int)(w:World)(hl:l.length=n)(hn:n≤100000)(hr:Rd w 7 n A (l.flatMap PtM.cells)) :
  Calls Tryz.prog 146 #[.int .i64 x,.slice A n cap] w fun e w'=>e=.returned (.bool (cnB x l))∧Below w.heap.size w w':=by
 have HR:=qd hr
 have HL:=qd hl
 obtain ⟨bb,hbb⟩:∃bb,bb=cnB x l:=⟨_,rfl⟩
 have HB:=qd hbb
 rw [←hbb]
 clear hr hl hbb
 go_enter Tryz.func146,Tryz.ntmps146
 go_wp2_with fail
 go_loopw [9] (fun iv wr=>∃i:Nat,iv=.int .i64 i∧i≤n∧Hid (bb=cnB x (l.drop i))∧Hid (Below w.heap.size w wr)) (fun iv _=>n-(intOf iv).toNat)
 case atStart=>exact ⟨0,rfl,Nat.zero_le _,HB,Below.refl _ _⟩
 case round=>
  clear HB
  obtain ⟨i,rfl,hi,HB,HW⟩:=hrel
  by_cases hlt:i<n
  ·obtain ⟨q,hq⟩:∃q,l[i]?=some q:=⟨_,List.getElem?_eq_getElem (by have:=HL.out;omega)⟩
   obtain ⟨b,o,hA,hbl,hcell⟩:=(HR.out.below HW.out).one (fun _=>rfl) (by omega) (by omega)
   obtain ⟨c0,c1,c2,c3,c4,c5,c6⟩:=seven_cells hcell hq
   subst hA
   have hdr:l.drop i=q::l.drop (i+1):=by
    obtain ⟨h1,h2⟩:=List.getElem?_eq_some_iff.1 hq
    rw [List.drop_eq_getElem_cons h1,h2]
   have HD:=qd (show cnB x (l.drop i)=if q.kd≠1 then false else if q.tQ=x then true else cnB x (l.drop (i+1)) by rw [hdr];rfl)
   have HB2:=qd (HW.out.trans ((oneb wr (.cells #[.int .u8 q.kd,.int .i64 q.tQ,.int .i64 q.el,.int .u16 q.i.c,.int .u8 q.i.t,.int .u8 q.i.f,.int .u32 q.i.k] 78)).mono HW.out.size))
   clear hcell hq hdr
   by_cases h1:q.kd=1
   ·have e1:((q.kd:Int) != 1)=false:=by rw [h1];rfl
    by_cases h2:q.tQ=x
    ·have e2:(q.tQ==x)=true:=by rw [h2];simp
     have HV:=qd (show bb=true by rw [HB.out,HD.out,if_neg (fun h=>h h1),if_pos h2])
     clear h1 h2
     go_wp2_with fail
     go_ret
     rw [HV.out]
     exact ⟨rfl,HB2.out⟩
    ·have e2:(q.tQ==x)=false:=by rw [beq_eq_false_iff_ne];exact h2
     have HV:=qd (show bb=cnB x (l.drop (i+1)) by rw [HB.out,HD.out,if_neg (fun h=>h h1),if_neg h2])
     clear h1 h2
     go_wp2_with fail
     go_roundw
     case rel=>exact ⟨i+1,by go_num,by omega,HV,HB2⟩
     case measure=>simp [intOf];omega
   ·have e1:((q.kd:Int) != 1)=true:=by rw [bne_iff_ne];omega
    have HV:=qd (show bb=false by rw [HB.out,HD.out,if_pos h1])
    clear h1
    go_wp2_with fail
    go_ret
    rw [HV.out]
    exact ⟨rfl,HB2.out⟩
  ·have HV:=qd (show bb=false by rw [HB.out,List.drop_of_length_le (by have:=HL.out;omega)];rfl)
   go_wp2_with fail
   go_ret
   rw [HV.out]
   exact ⟨rfl,HW.out⟩
theorem name_of {v:Value}{t:Int}{d:DataW Unit}{ps:List MemPlace}(h:plainElem Tryz.prog 74 v=some (d,ps))(hd:d=.lit (.int .i64 t)):v=.int .i64 t:=by
 obtain ⟨a,rfl,hz,_⟩:=plainElem_int_inv Tryz.underlying74 h
 injection hz with h1 _
 rw [hd] at h1
 injection h1 with h1
 injection h1 with _ h1
 rw [h1]
theorem end_any (o:List (Int×Int))(m:Nat)(x:Int)(w:World)(hm:NMap w 74 m o)(ho:InO o)(hx:InR x)(hc:o.length≤100000) :
  Calls Tryz.prog 145 #[.map (some m),.int .i64 x] w fun e w'=>e=.returned (.int .i64 (endF o x))∧w'=w:=by
 have HM:=qd hm
 have HO:=qd ho
 obtain ⟨n,hn⟩:∃n,n=cnt o:=⟨_,rfl⟩
 have hn9:n≤100000:=by rw [hn];exact Nat.le_trans (cnt_le o) hc
 have hsz:Maps.size (mD o)=n:=by rw [size_mD,hn]
 obtain ⟨y,hy⟩:∃y,y=endF o x:=⟨_,rfl⟩
 have HY:=qd (show y=endN (n-0) o x by rw [hy,hn];rfl)
 have HX:=qd hx
 rw [←hy]
 clear hm ho hx hc hn hy
 go_enter Tryz.func145,Tryz.ntmps145
 go_wp2_with (at_len;refine wpList_len_own _ rfl _ _ rfl 74 74 Tryz.underlying261 (plainElem Tryz.prog 74) m _ _ rfl HM.out ?_;rw [hsz])
 clear hsz
 go_loopw [1,9] (fun xv iv wr=>∃(i:Nat) (z:Int),iv=.int .i64 i∧xv=.int .i64 z∧i≤n∧Hid (y=endN (n-i) o z)∧Hid (InR z)∧wr=w) (fun _ iv _=>n-(intOf iv).toNat)
 case atStart=>exact ⟨0,x,rfl,rfl,Nat.zero_le _,HY,HX,rfl⟩
 case round=>
  clear HY HX
  obtain ⟨i,z,rfl,rfl,hi,HY,HX,rfl⟩:=hrel
  by_cases hlt:i<n
  ·obtain ⟨k,hk⟩:∃k,n-i=k+1:=⟨n-i-1,by omega⟩
   have hk2:n-(i+1)=k:=by omega
   have HK:=qd (And.intro hk hk2)
   clear hk hk2
   cases hl:lk z o with
   | none=>
    have hh:has (mD o) (.int .i64 z)=false:=by rw [mD_has,hl];rfl
    have HV:=qd (show y=z by rw [HY.out,HK.out.1,endN,hl])
    clear hl
    go_wp2_with (at_lookup;go_loud (refine wpList_lookup_ok _ rfl _ _ 261 rfl 74 74 nameKeyed Tryz.underlying261 (plainElem Tryz.prog 74) (Tryz.zeroValue74 _) (zd:=.lit (.int .i64 0)) (zp:=[]) (plainElem_int Tryz.underlying74 (by decide)) m _ _ rfl HM.out _ (.int .i64 z) rfl (keyOf_int_mk Tryz.underlying74 (wfI HX.out.1 HX.out.2)) false hh ?_);intro v ps hv;obtain ⟨cc,rfl,_,_⟩:=plainElem_int_inv Tryz.underlying74 hv;clear hv)
    go_ret
    rw [HV.out]
    exact ⟨rfl,rfl⟩
   | some t=>
    have hh:has (mD o) (.int .i64 z)=true:=by rw [mD_has,hl];rfl
    have hat:=mD_at o z (.lit (.int .i64 0))
    rw [hl] at hat
    have HV:=qd (show y=endN (n-(i+1)) o t by rw [HY.out,HK.out.1,endN,hl,HK.out.2])
    have HT:=qd (HO.out _ (lk_in hl)).2
    clear hl
    go_wp2_with (at_lookup;go_loud (refine wpList_lookup_ok _ rfl _ _ 261 rfl 74 74 nameKeyed Tryz.underlying261 (plainElem Tryz.prog 74) (Tryz.zeroValue74 _) (zd:=.lit (.int .i64 0)) (zp:=[]) (plainElem_int Tryz.underlying74 (by decide)) m _ _ rfl HM.out _ (.int .i64 z) rfl (keyOf_int_mk Tryz.underlying74 (wfI HX.out.1 HX.out.2)) true hh ?_);intro v ps hv;obtain rfl:=name_of hv hat;clear hv)
    go_roundw
    case rel=>exact ⟨i+1,t,by go_num,rfl,by omega,HV,HT,by trivial⟩
    case measure=>simp [intOf];omega
  ·have HV:=qd (show y=z by rw [HY.out,show n-i=0 from by omega];rfl)
   go_wp2_with fail
   go_ret
   rw [HV.out]
   exact ⟨rfl,rfl⟩
end Go.Proofs.YtcnebdjhhfnmoaaGreatDoor.Ju
namespace Go.Proofs.YtcnebdjhhfnmoaaGreatDoor.Ju
open Go.RowKit Go.Maps Go.WideMaps Go.WideElems Go.ChangeMaps
theorem or_set {w:World}{B:Nat}{e:TypeId}{z n g cap j:Nat}{xs:List Value}(h:w.ownsRow B e z (.slice (some ⟨g,0,none⟩) n cap) n xs)(u:Value):(w.setCell ⟨g,j,none⟩ u).ownsRow B e z (.slice (some ⟨g,0,none⟩) n cap) n (xs.set j u):=by
 obtain ⟨h1,⟨h2,h3⟩|⟨g',cap',cur,h2,h3,h4,h5,h6,h7,h8⟩⟩:=h
 ·cases h2
 ·cases h2
  refine ⟨by rw [List.length_set];exact h1,Or.inr ⟨g,cap,cur.setIfInBounds j u,rfl,h3,?_,h5,h6,by rw [Array.size_setIfInBounds];exact h7,?_⟩⟩
  ·simp [World.setCell,Array.getElem?_modify,h4]
  ·rw [Array.toList_setIfInBounds,List.take_set,h8]
theorem or_cell {w:World}{B:Nat}{e:TypeId}{z n g cap:Nat}{xs:List Value}(h:w.ownsRow B e z (.slice (some ⟨g,0,none⟩) n cap) n xs){j:Nat}{u:Value}(hu:xs[j]?=some u):w.cell? ⟨g,j,none⟩=some u∧w.frozen? ⟨g,j,none⟩=false∧g<w.heap.size:=by
 obtain ⟨h1,⟨h2,h3⟩|⟨g',cap',cur,h2,h3,h4,h5,h6,h7,h8⟩⟩:=h
 ·cases h2
 ·cases h2
  refine ⟨?_,by simp [World.frozen?,h4],(Array.getElem?_eq_some_iff.1 h4).1⟩
  have hj:j<n*z:=by rw [←h1];exact (List.getElem?_eq_some_iff.1 hu).1
  rw [←h8,List.getElem?_take_of_lt hj] at hu
  simp [World.cell?,h4]
  rw [←Array.getElem?_toList];exact hu
theorem set_four (l:List Ins):∀(k:Nat) (x:Ins),k<l.length→((((l.flatMap Ins.cells).set (k*4) (.int .u16 x.c)).set (k*4+1) (.int .u8 x.t)).set (k*4+2) (.int .u8 x.f)).set (k*4+3) (.int .u32 x.k)=(l.set k x).flatMap Ins.cells:=by
 induction l with
 | nil=>intro k x h;simp at h
 | cons y t ih=>
  intro k x h
  cases k with
  | zero=>rfl
  | succ k=>
   have:=ih k x (by simpa using h)
   rw [List.set_cons_succ,List.flatMap_cons,List.flatMap_cons,←this]
   have e:∀j v (xs:List Value),(Ins.cells y++xs).set (j+4) v=Ins.cells y++xs.set j v:=fun j v xs=>by
    rw [List.set_append_right _ _ (by simp [Ins.cells])];simp [Ins.cells]
   rw [show (k+1)*4=k*4+4 from by omega,e,show k*4+4+1=k*4+1+4 from by omega,e,show k*4+4+2=k*4+2+4 from by omega,e,show k*4+4+3=k*4+3+4 from by omega,e]
def Half (l cur:List Ins)(i:Nat):Prop:=cur.length=l.length∧∀k,k<l.length→cur[k]?=if k<i∨l.length≤k+i then l[l.length-1-k]? else l[k]?
theorem half_0 (l:List Ins):Half l l 0:=⟨rfl,fun k hk=>by rw [if_neg (by omega)]⟩
theorem half_step {l cur:List Ins}{i j:Nat}{x y:Ins}(h:Half l cur i)(hij:i<j)(hj:j+i+1=l.length)(hx:cur[i]?=some x)(hy:cur[j]?=some y):Half l ((cur.set i y).set j x) (i+1):=by
 refine ⟨by simp [h.1],fun k hk=>?_⟩
 have hxl:l[i]?=some x:=by rw [←hx,h.2 i (by omega),if_neg (by omega)]
 have hyl:l[j]?=some y:=by rw [←hy,h.2 j (by omega),if_neg (by omega)]
 by_cases h1:k=j
 ·subst h1
  rw [List.getElem?_set_self (by simp [h.1];omega),if_pos (by omega),show l.length-1-k=i from by omega,hxl]
 ·rw [List.getElem?_set_ne (fun e=>h1 e.symm)]
  by_cases h2:k=i
  ·subst h2
   rw [List.getElem?_set_self (by rw [h.1];omega),if_pos (by omega),show l.length-1-k=j from by omega,hyl]
  ·rw [List.getElem?_set_ne (fun e=>h2 e.symm),h.2 k hk]
   by_cases h3:k<i∨l.length≤k+i
   ·rw [if_pos h3,if_pos (by omega)]
   ·rw [if_neg h3,if_neg (by omega)]
theorem half_end {l cur:List Ins}{i:Nat}(h:Half l cur i)(hi:l.length≤2*i+1):cur=l.reverse:=by
 apply List.ext_getElem?
 intro k
 by_cases hk:k<l.length
 ·rw [h.2 k hk,List.getElem?_reverse hk]
  by_cases h3:k<i∨l.length≤k+i
  ·rw [if_pos h3]
  ·rw [if_neg h3]
   congr 1;omega
 ·rw [List.getElem?_eq_none (by rw [h.1];omega),List.getElem?_eq_none (by simp;omega)]
def W4 (w:World)(g k:Nat)(x:Ins):World:=(((w.setCell ⟨g,k*4,none⟩ (.int .u16 x.c)).setCell ⟨g,k*4+1,none⟩ (.int .u8 x.t)).setCell ⟨g,k*4+2,none⟩ (.int .u8 x.f)).setCell ⟨g,k*4+3,none⟩ (.int .u32 x.k)
theorem put_four {w:World}{B g n cap k:Nat}{e:TypeId}{cur:List Ins}(x:Ins)(h:w.ownsRow B e 4 (.slice (some ⟨g,0,none⟩) n cap) n (cur.flatMap Ins.cells))(hk:k<cur.length) :
  (W4 w g k x).ownsRow B e 4 (.slice (some ⟨g,0,none⟩) n cap) n ((cur.set k x).flatMap Ins.cells)∧w.grownBy (W4 w g k x) (some g):=by
 constructor
 ·rw [←set_four cur k x hk]
  exact or_set (or_set (or_set (or_set h _) _) _) _
 ·exact only_trans (only_set w g _ _) (only_trans (only_set _ g _ _) (only_trans (only_set _ g _ _) (only_set _ g _ _)))
theorem drew_two {w W:World}{B z n:Nat}{e:TypeId}{v:Value}{xs:List Value}{r:Option Nat}(h:W.ownsRow B e z v n xs)(s:w.grownBy W r):W.drew.ownsRow B e z v n xs∧w.grownBy W.drew r:=
 ⟨own_keepN h (Below.refl _ _).drew,s.os,s.tape,s.output,s.size,s.block⟩
theorem swap_row {w:World}{B g n cap i j:Nat}{e:TypeId}{cur:List Ins}{x y:Ins}(h:w.ownsRow B e 4 (.slice (some ⟨g,0,none⟩) n cap) n (cur.flatMap Ins.cells))(hi:i<cur.length)(hj:j<cur.length) :
  (W4 (W4 w g i y) g j x).drew.ownsRow B e 4 (.slice (some ⟨g,0,none⟩) n cap) n (((cur.set i y).set j x).flatMap Ins.cells)∧w.grownBy (W4 (W4 w g i y) g j x).drew (some g):=by
 obtain ⟨h1,g1⟩:=put_four y h hi
 obtain ⟨h2,g2⟩:=put_four (k:=j) x h1 (by simpa using hj)
 exact drew_two h2 (only_trans g1 g2)
theorem reverse_any (l:List Ins)(n B:Nat)(A:Option Addr)(cap:Nat)(w:World)(hl:l.length=n)(hn:n≤5000)(hr:w.ownsRow B 76 4 (.slice A n cap) n (l.flatMap Ins.cells)) :
  Calls Tryz.prog 62 #[.slice A n cap] w fun e w'=>e=.returned (.tuple #[])∧w'.ownsRow B 76 4 (.slice A n cap) n (l.reverse.flatMap Ins.cells)∧w.grownBy w' (Value.slice A n cap).ownBlock:=by
 have HR:=qd hr
 have HL:=qd hl
 clear hr hl
 go_enter Tryz.func62,Tryz.ntmps62
 have e0:IntKind.i64.wrap ((n:Int)-1)=(n:Int)-1:=by rw [IntKind.wrap_i64];omega
 go_wp2_with fail
 clear e0
 go_loopw [2,3] (fun iv jv wr=>∃(i:Nat) (z:Int) (cur:List Ins),iv=.int .i64 i∧jv=.int .i64 z∧z+i+1=n∧2*i≤n∧Hid (Half l cur i)∧Hid (wr.ownsRow B 76 4 (.slice A n cap) n (cur.flatMap Ins.cells))∧Hid (w.grownBy wr (Value.slice A n cap).ownBlock)) (fun iv _ _=>n-(intOf iv).toNat)
 case atStart=>exact ⟨0,_,l,rfl,rfl,by omega,by omega,qd (half_0 l),HR,qd (World.grownBy.refl _ _)⟩
 case round=>
  obtain ⟨i,z,cur,rfl,rfl,hz,hi,HH,HO,HG⟩:=hrel
  by_cases hlt:(i:Int)<z
  ·obtain ⟨j,rfl⟩:∃j:Nat,z=(j:Int):=⟨z.toNat,by omega⟩
   have hij:i<j:=by omega
   have hj:j+i+1=n:=by omega
   obtain ⟨x,hx⟩:∃x,cur[i]?=some x:=⟨_,List.getElem?_eq_getElem (by have:=HH.out.1;have:=HL.out;omega)⟩
   obtain ⟨y,hy⟩:∃y,cur[j]?=some y:=⟨_,List.getElem?_eq_getElem (by have:=HH.out.1;have:=HL.out;omega)⟩
   obtain ⟨g,rfl⟩:∃g,A=some ⟨g,0,none⟩:=by
    obtain ⟨_,⟨h2,h3⟩|⟨g',cap',cur',h2,_⟩⟩:=HO.out
    ·omega
    ·injection h2 with h2;exact ⟨g',h2⟩
   have HX:=qd (And.intro hx hy)
   have ci:∀t u,t<4→x.cells[t]?=some u→wr.cell? ⟨g,i*4+t,none⟩=some u∧wr.frozen? ⟨g,i*4+t,none⟩=false∧g<wr.heap.size:=fun t u ht hu=>or_cell HO.out (by rw [cells_at _ _ _ ht,HX.out.1];exact hu)
   have cj:∀t u,t<4→y.cells[t]?=some u→wr.cell? ⟨g,j*4+t,none⟩=some u∧wr.frozen? ⟨g,j*4+t,none⟩=false∧g<wr.heap.size:=fun t u ht hu=>or_cell HO.out (by rw [cells_at _ _ _ ht,HX.out.2];exact hu)
   obtain ⟨a0,b0,gl⟩:=ci 0 _ (by omega) rfl
   obtain ⟨a1,b1,_⟩:=ci 1 _ (by omega) rfl
   obtain ⟨a2,b2,_⟩:=ci 2 _ (by omega) rfl
   obtain ⟨a3,b3,_⟩:=ci 3 _ (by omega) rfl
   obtain ⟨c0,d0,_⟩:=cj 0 _ (by omega) rfl
   obtain ⟨c1,d1,_⟩:=cj 1 _ (by omega) rfl
   obtain ⟨c2,d2,_⟩:=cj 2 _ (by omega) rfl
   obtain ⟨c3,d3,_⟩:=cj 3 _ (by omega) rfl
   rw [Nat.add_zero] at a0 b0 c0 d0
   have i0:(0:Int)≤(i:Int):=by omega
   have i1:(i:Int)<(n:Int):=by omega
   have j0:(0:Int)≤(j:Int):=by omega
   have j1:(j:Int)<(n:Int):=by omega
   have e1:IntKind.i64.wrap ((i:Int)+1)=((i+1:Nat):Int):=by rw [IntKind.wrap_i64];omega
   have e2:IntKind.i64.wrap ((j:Int)-1)=(j:Int)-1:=by rw [IntKind.wrap_i64];omega
   have HW:=qd (swap_row (x:=x) (y:=y) HO.out (List.getElem?_eq_some_iff.1 hx).1 (List.getElem?_eq_some_iff.1 hy).1)
   have HH2:=qd (half_step HH.out hij (by have:=HL.out;omega) hx hy)
   clear ci cj hx hy
   go_upto_region 3 with fail
   refine wp_region_any (by kernel_rfl) ?_
   try (change wpAny _ _ _ _ _ _ _ (World.drew _))
   refine wpAny_take (i:=0) (v:=?_) rfl (by kernel_rfl) (by kernel_rfl) (by kernel_rfl) (fun _ _ _ h=>h) (Or.inl ⟨by rfl,?_⟩) ?_
   rotate_left 1
   ·intro w
    go_simp<;>with_reducible rfl
   refine wpAny_take (i:=1) (v:=?_) rfl (by kernel_rfl) (by kernel_rfl) (by kernel_rfl) (fun _ _ _ h=>h) (Or.inl ⟨by rfl,?_⟩) ?_
   rotate_left 1
   ·intro w
    go_simp<;>with_reducible rfl
   refine wpAny_take (i:=2) (v:=?_) rfl (by kernel_rfl) (by kernel_rfl) (by kernel_rfl) (fun _ _ _ h=>h) (Or.inl ⟨by rfl,?_⟩) ?_
   rotate_left 1
   ·intro w
    go_simp<;>with_reducible rfl
   refine wpAny_take (i:=3) (v:=?_) rfl (by kernel_rfl) (by kernel_rfl) (by kernel_rfl) (fun _ _ _ h=>h) (Or.inl ⟨by rfl,?_⟩) ?_
   rotate_left 1
   ·intro w
    go_simp<;>with_reducible rfl
   refine wpAny_take (i:=4) (v:=?_) rfl (by kernel_rfl) (by kernel_rfl) (by kernel_rfl) (fun _ _ _ h=>h) (Or.inl ⟨by rfl,?_⟩) ?_
   rotate_left 1
   ·intro w
    go_simp<;>with_reducible rfl
   refine wpAny_take (i:=5) (v:=?_) rfl (by kernel_rfl) (by kernel_rfl) (by kernel_rfl) (fun _ _ _ h=>h) (Or.inl ⟨by rfl,?_⟩) ?_
   rotate_left 1
   ·intro w
    go_simp<;>with_reducible rfl
   refine wpAny_take (i:=6) (v:=?_) rfl (by kernel_rfl) (by kernel_rfl) (by kernel_rfl) (fun _ _ _ h=>h) (Or.inl ⟨by rfl,?_⟩) ?_
   rotate_left 1
   ·intro w
    go_simp<;>with_reducible rfl
   refine wpAny_take (i:=8) (v:=?_) rfl (by kernel_rfl) (by kernel_rfl) (by kernel_rfl) (fun _ _ _ h=>h) (Or.inl ⟨by rfl,?_⟩) ?_
   rotate_left 1
   ·intro w
    go_simp<;>with_reducible rfl
   refine wpAny_take (i:=9) (v:=?_) rfl (by kernel_rfl) (by kernel_rfl) (by kernel_rfl) (fun _ _ _ h=>h) (Or.inl ⟨by rfl,?_⟩) ?_
   rotate_left 1
   ·intro w
    go_simp<;>with_reducible rfl
   refine wpAny_take (i:=10) (v:=?_) rfl (by kernel_rfl) (by kernel_rfl) (by kernel_rfl) (fun _ _ _ h=>h) (Or.inl ⟨by rfl,?_⟩) ?_
   rotate_left 1
   ·intro w
    go_simp<;>with_reducible rfl
   refine wpAny_ready (rs:=[7,11]) (by kernel_rfl) (by simp) ?_
   refine AllReady.cons rfl (fun K hK=>?_) ?_
   ·skip
    go_simp
    refine hK _ _ ?_
    clear hK K
    refine wpAny_ready (rs:=[11]) (by kernel_rfl) (by simp) ?_
    refine AllReady.cons rfl (fun K hK=>?_) ?_
    ·skip
     go_simp
     refine hK _ _ ?_
     clear hK K
     refine wpAny_take (i:=12) (v:=?_) rfl (by kernel_rfl) (by kernel_rfl) (by kernel_rfl) (fun _ _ _ h=>h) (Or.inl ⟨by rfl,?_⟩) ?_
     rotate_left 1
     ·intro w
      go_simp<;>with_reducible rfl
     refine wpAny_ready (rs:=[13]) (by kernel_rfl) (by simp) ?_
     refine AllReady.cons rfl (fun K hK=>?_) ?_
     ·skip
      go_simp
      refine hK _ _ ?_
      clear hK K
      refine wpAny_take (i:=14) (v:=?_) rfl (by kernel_rfl) (by kernel_rfl) (by kernel_rfl) (fun _ _ _ h=>h) (Or.inl ⟨by rfl,?_⟩) ?_
      rotate_left 1
      ·intro w
       go_simp<;>with_reducible rfl
      refine wpAny_ready (rs:=[15]) (by kernel_rfl) (by simp) ?_
      refine AllReady.cons rfl (fun K hK=>?_) ?_
      ·skip
       go_simp
       refine hK _ _ ?_
       clear hK K
       refine wpAny_done (by kernel_rfl) ?_ _
       go_wp2_with fail
       go_roundw
       case rel=>exact ⟨i+1,(j:Int)-1,_,by go_num,rfl,by omega,by omega,HH2,qd HW.out.1,qd (only_trans HG.out HW.out.2)⟩
       case measure=>simp [intOf];omega
      exact AllReady.nil
     exact AllReady.nil
    exact AllReady.nil
   refine AllReady.cons rfl (fun K hK=>?_) ?_
   ·skip
    go_simp
    refine hK _ _ ?_
    clear hK K
    refine wpAny_ready (rs:=[7]) (by kernel_rfl) (by simp) ?_
    refine AllReady.cons rfl (fun K hK=>?_) ?_
    ·skip
     go_simp
     refine hK _ _ ?_
     clear hK K
     refine wpAny_take (i:=12) (v:=?_) rfl (by kernel_rfl) (by kernel_rfl) (by kernel_rfl) (fun _ _ _ h=>h) (Or.inl ⟨by rfl,?_⟩) ?_
     rotate_left 1
     ·intro w
      go_simp<;>with_reducible rfl
     refine wpAny_ready (rs:=[13]) (by kernel_rfl) (by simp) ?_
     refine AllReady.cons rfl (fun K hK=>?_) ?_
     ·skip
      go_simp
      refine hK _ _ ?_
      clear hK K
      refine wpAny_take (i:=14) (v:=?_) rfl (by kernel_rfl) (by kernel_rfl) (by kernel_rfl) (fun _ _ _ h=>h) (Or.inl ⟨by rfl,?_⟩) ?_
      rotate_left 1
      ·intro w
       go_simp<;>with_reducible rfl
      refine wpAny_ready (rs:=[15]) (by kernel_rfl) (by simp) ?_
      refine AllReady.cons rfl (fun K hK=>?_) ?_
      ·skip
       go_simp
       refine hK _ _ ?_
       clear hK K
       refine wpAny_done (by kernel_rfl) ?_ _
       go_wp2_with fail
       go_roundw
       case rel=>exact ⟨i+1,(j:Int)-1,_,by go_num,rfl,by omega,by omega,HH2,qd HW.out.1,qd (only_trans HG.out HW.out.2)⟩
       case measure=>simp [intOf];omega
      exact AllReady.nil
     exact AllReady.nil
    exact AllReady.nil
   exact AllReady.nil
  ·have HE:=qd (half_end HH.out (by have:=HL.out;omega))
   go_wp2_with fail
   go_end0
   exact ⟨rfl,by rw [←HE.out];exact HO.out,HG.out⟩
end Go.Proofs.YtcnebdjhhfnmoaaGreatDoor.Ju
