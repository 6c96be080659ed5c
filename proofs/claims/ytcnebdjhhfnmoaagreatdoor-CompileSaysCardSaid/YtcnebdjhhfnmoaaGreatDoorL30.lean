/- What lays code: conditions that hold of no call; a condition. -/
import Derived.Test.YtcnebdjhhfnmoaaGreatDoorL29
import Derived.Test.YtcnebdjhhfnmoaaGreatDoorL19
import Derived.Laws.BitsAllLaws
import Derived.Test.YtcnebdjhhfnmoaaGreatDoorL24
import Derived.Test.YtcnebdjhhfnmoaaGreatDoorL01
set_option maxHeartbeats 32000000
set_option maxRecDepth 100000
namespace Go.Proofs.YtcnebdjhhfnmoaaGreatDoor.Lo
open Go.RowKit Go.Maps Go.WideMaps Go.WideElems Go.ChangeMaps Go.Proofs.YtcnebdjhhfnmoaaGreatDoor.Ju Go.Proofs.YtcnebdjhhfnmoaaGreatDoor.Me
theorem never_any (c:CondM)(w:World)(hc:c.ok):Calls Tryz.prog 177 #[.agg #[.int .i64 c.arg,.int .u8 c.op,.int .u64 c.mask,.int .u64 c.val]] w fun e w'=>e=.returned (.bool (nevB c))∧Below w.heap.size w w':=by
 obtain ⟨g1,g2,go,gm,gv⟩:=hc
 have HB:=qd (oneb w (.cells #[.int .i64 c.arg,.int .u8 c.op,.int .u64 c.mask,.int .u64 c.val] 89))
 have HV:=qd (show nevB c=if c.arg<0∨6≤c.arg then true else if c.op=7 then decide (c.val&&&c.mask≠c.val) else decide (c.op<1∨7<c.op) from rfl)
 obtain ⟨bb,hbb⟩:∃bb,bb=nevB c:=⟨_,rfl⟩
 rw [←hbb] at HV ⊢
 clear hbb
 obtain ⟨ar,op,ma,va⟩:=c
 dsimp only at *
 by_cases h1:ar<0
 ·have HW:=qd (HV.out.trans (if_pos (Or.inl h1)))
  clear HV
  go_enter Tryz.func177,Tryz.ntmps177
  go_wp2_with fail
  go_ret
  exact ⟨by rw [HW.out];rfl,HB.out⟩
 by_cases h2:6≤ar
 ·have HW:=qd (HV.out.trans (if_pos (Or.inr h2)))
  clear HV
  go_enter Tryz.func177,Tryz.ntmps177
  go_wp2_with fail
  go_ret
  exact ⟨by rw [HW.out];rfl,HB.out⟩
 have HV:=qd (HV.out.trans (if_neg (by omega)))
 by_cases h7:op=7
 ·have e7:((op:Int)==7)=true:=by rw [h7];rfl
  have HV:=qd (HV.out.trans (if_pos h7))
  clear h7
  by_cases hm:va&&&ma=va
  ·have b1:(bits .andNot .u64 (va:Int) (ma:Int) != 0)=false:=by rw [u64_andNot_nat _ _ gv gm,(bits_left va ma gv gm).2 hm];rfl
   have HW:=qd (HV.out.trans (decide_eq_false (by simpa using hm)))
   clear HV hm
   go_enter Tryz.func177,Tryz.ntmps177
   go_wp2_with fail
   go_ret
   exact ⟨by rw [HW.out];rfl,HB.out⟩
  ·have b1:(bits .andNot .u64 (va:Int) (ma:Int) != 0)=true:=by
    rw [u64_andNot_nat _ _ gv gm,bne_iff_ne]
    have hne:¬(va&&&(18446744073709551615-ma)=0):=fun h=>hm ((bits_left va ma gv gm).1 h)
    omega
   have HW:=qd (HV.out.trans (decide_eq_true (by simpa using hm)))
   clear HV hm
   go_enter Tryz.func177,Tryz.ntmps177
   go_wp2_with fail
   go_ret
   exact ⟨by rw [HW.out];rfl,HB.out⟩
 ·have e7:((op:Int)==7)=false:=by rw [beq_eq_false_iff_ne];omega
  have HV:=qd (HV.out.trans (if_neg h7))
  clear h7
  by_cases h8:op<1
  ·have j8:(op:Int)<1:=by omega
   have HW:=qd (HV.out.trans (decide_eq_true (Or.inl h8)))
   clear HV h8
   go_enter Tryz.func177,Tryz.ntmps177
   go_wp2_with fail
   go_ret
   exact ⟨by rw [HW.out];rfl,HB.out⟩
  ·have j8:¬(op:Int)<1:=by omega
   by_cases h9:7<op
   ·have j9:(7:Int)<(op:Int):=by omega
    have HW:=qd (HV.out.trans (decide_eq_true (Or.inr h9)))
    clear HV h8 h9
    go_enter Tryz.func177,Tryz.ntmps177
    go_wp2_with fail
    go_ret
    exact ⟨by rw [HW.out];rfl,HB.out⟩
   ·have j9:¬(7:Int)<(op:Int):=by omega
    have HW:=qd (HV.out.trans (decide_eq_false (by omega)))
    clear HV h8 h9
    go_enter Tryz.func177,Tryz.ntmps177
    go_wp2_with fail
    go_ret
    exact ⟨by rw [HW.out];rfl,HB.out⟩
def IxNev (l:List CondM)(w:World)(e:Ending)(w':World):Prop:=(∃v:Int,e=.returned (.int .i64 v)∧decide (0≤v)=l.any nevB)∧Below w.heap.size w w'
theorem index_any (l:List CondM)(A:Option Addr)(n cap:Nat)(w:World)(hn:l.length=n)(hr:Rd w 4 n A (l.flatMap CondM.cells))(hok:∀c∈l,c.ok)(hm:n≤100000) :
  Calls Tryz.prog 189 #[.slice A n cap,.func (.func 177) #[] #[]] w (IxNev l w):=by
 have HR:=qd hr
 have HN:=qd hn
 have HOk:=qd hok
 clear hr hok
 go_enter Tryz.func189,Tryz.ntmps189
 go_wp2_with fail
 go_loopw [8] (fun iv wr=>∃k:Nat,iv=.int .i64 k∧k≤n∧Hid (((l.take k).any nevB)=false)∧Hid (Below w.heap.size w wr)) (fun iv _=>n-(intOf iv).toNat)
 case atStart=>exact ⟨0,rfl,Nat.zero_le _,rfl,Below.refl _ _⟩
 case round=>
  obtain ⟨k,rfl,hk,HT,HB⟩:=hrel
  by_cases hlt:k<n
  ·obtain ⟨x,hx⟩:∃x,l[k]?=some x:=⟨_,List.getElem?_eq_getElem (by omega)⟩
   obtain ⟨b,o,rfl,hbl,hcell⟩:=(HR.out.below HB.out).one (f:=CondM.cells) (fun _=>rfl) (by omega) (by omega)
   obtain ⟨c0,c1,c2,c3⟩:=cond_cells hcell hx
   have HX:=qd hx
   have hp:=never_any x wr (HOk.out x (List.mem_of_getElem? hx))
   clear hcell hx
   go_wp2_with fail
   refine hp.mono ?_
   clear hp c0 c1 c2 c3
   rintro e w2 ⟨rfl,hb2⟩
   have HB2:=qd (HB.out.trans (hb2.mono HB.out.size))
   clear hb2
   cases hq:nevB x with
   | true=>
    have HV:=qd (show decide ((0:Int)≤(k:Int))=l.any nevB by
     rw [decide_eq_true (by omega:(0:Int)≤(k:Int))]
     exact (List.any_eq_true.2 ⟨x,List.mem_of_getElem? HX.out,hq⟩).symm)
    clear hq
    go_wp2_with fail
    go_ret
    exact ⟨⟨_,rfl,HV.out⟩,HB2.out⟩
   | false=>
    have HK:=qd (show ((l.take (k+1)).any nevB)=false by
     rw [List.take_add_one,HX.out,List.any_append,HT.out];simpa using hq)
    clear hq
    go_wp2_with fail
    go_roundw
    case rel=>exact ⟨k+1,by go_num,by omega,HK,HB2⟩
    case measure=>simp [intOf];omega
  ·have HV:=qd (show decide ((0:Int)≤-1)=l.any nevB by
    have:=HT.out
    rw [List.take_of_length_le (by have:=HN.out;omega)] at this
    rw [this];rfl)
   go_wp2_with fail
   go_ret
   exact ⟨⟨_,rfl,HV.out⟩,HB.out⟩
theorem contains_any (l:List CondM)(A:Option Addr)(n cap:Nat)(w:World)(hn:l.length=n)(hr:Rd w 4 n A (l.flatMap CondM.cells))(hok:∀c∈l,c.ok)(hm:n≤100000) :
  Calls Tryz.prog 176 #[.slice A n cap,.func (.func 177) #[] #[]] w fun e w'=>e=.returned (.bool (l.any nevB))∧Below w.heap.size w w':=by
 have hp:=index_any l A n cap w hn hr hok hm
 go_enter Tryz.func176,Tryz.ntmps176
 go_wp2_with fail
 refine hp.mono ?_
 clear hp
 rintro e w2 ⟨⟨v,rfl,hv⟩,hb2⟩
 go_wp2_with fail
 go_ret
 refine ⟨?_,hb2⟩
 rw [←hv]
 rfl
section
variable {w0 w:World} {p B:Nat} {v:Value} {k d:Nat} {s:List PtM}
theorem ask_any (c:CondM)(y n:Nat)(h:LR w0 w p B v k d s)(hl:s.length≤200000)(hk:k≤200000)(hc:c.ok)(hne:nevB c=false) :
  Calls Tryz.prog 178 #[.pointer (some ⟨p,0,none⟩),.agg #[.int .i64 c.arg,.int .u8 c.op,.int .u64 c.mask,.int .u64 c.val],.int .i64 y,.int .i64 n] w (LQ w0 w p B (ask k c y n).2 d (s++(ask k c y n).1)):=by
 obtain ⟨a0,a6⟩:=nev_arg hne
 obtain ⟨o1,o7,-⟩:=nev_op hne
 obtain ⟨g1,g2,go,gm,gv⟩:=hc
 have hb0:=oneb w (.cells #[.int .i64 c.arg,.int .u8 c.op,.int .u64 c.mask,.int .u64 c.val] 89)
 have HO:=qd (show Oth p w _ from Oth.of hb0)
 have HEq:=qd (fun (m y n:Nat) (hm:m<18446744073709551616)=>equal_any c.arg c.arg.toNat m c.val y n (h.below hb0) (by omega) (by omega) a0 a6 rfl hm gv)
 have HAb:=qd (fun (how y n:Nat) (hh:how=32∨how=48)=>above_any c.arg c.arg.toNat how c.val y n (h.below hb0) (by omega) (by omega) hh a0 a6 rfl gv)
 have HM:=qd gm
 have HK:=qd (show ask k c y n=if c.op=1 then equalL k c.arg.toNat 18446744073709551615 c.val y n
 else if c.op=2 then equalL k c.arg.toNat 18446744073709551615 c.val n y
 else if c.op=3 then aboveL k c.arg.toNat 48 c.val n y
 else if c.op=4 then aboveL k c.arg.toNat 32 c.val n y
 else if c.op=5 then aboveL k c.arg.toNat 32 c.val y n
 else if c.op=6 then aboveL k c.arg.toNat 48 c.val y n
 else if c.op=7 then equalL k c.arg.toNat c.mask c.val y n else ([],k) from rfl)
 obtain ⟨AK,hAK⟩:∃z,z=ask k c y n:=⟨_,rfl⟩
 rw [←hAK] at HK ⊢
 obtain ⟨ar,op,ma,va⟩:=c
 dsimp only at *
 clear h hne hb0 hAK
 rcases (by omega:op=1∨op=2∨op=3∨op=4∨op=5∨op=6∨op=7) with ho|ho|ho|ho|ho|ho|ho
 ·have HQ:=qd (HK.out.trans (by rw [if_pos ho]))
  have e1:((op:Int)==1)=true:=by rw [ho];rfl
  clear HK ho o1 o7
  go_enter Tryz.func178,Tryz.ntmps178
  go_wp2_with fail
  refine (HEq.out 18446744073709551615 y n (by omega)).mono ?_
  rintro e w3 ⟨rfl,v3,hr3,ho3⟩
  have HL:=qd hr3
  have HO:=qd (HO.out.trans ho3)
  clear hr3 ho3
  go_wp2_with fail
  go_end0
  rw [HQ.out]
  exact ⟨rfl,_,HL.out,HO.out⟩
 ·have HQ:=qd (HK.out.trans (by rw [if_neg (show ¬op=1 by omega),if_pos ho]))
  have e1:((op:Int)==1)=false:=by rw [beq_eq_false_iff_ne];omega
  have e2:((op:Int)==2)=true:=by rw [ho];rfl
  clear HK ho o1 o7
  go_enter Tryz.func178,Tryz.ntmps178
  go_wp2_with fail
  refine (HEq.out 18446744073709551615 n y (by omega)).mono ?_
  rintro e w3 ⟨rfl,v3,hr3,ho3⟩
  have HL:=qd hr3
  have HO:=qd (HO.out.trans ho3)
  clear hr3 ho3
  go_wp2_with fail
  go_end0
  rw [HQ.out]
  exact ⟨rfl,_,HL.out,HO.out⟩
 ·have HQ:=qd (HK.out.trans (by rw [if_neg (show ¬op=1 by omega),if_neg (show ¬op=2 by omega),if_pos ho]))
  have e1:((op:Int)==1)=false:=by rw [beq_eq_false_iff_ne];omega
  have e2:((op:Int)==2)=false:=by rw [beq_eq_false_iff_ne];omega
  have e3:((op:Int)==3)=true:=by rw [ho];rfl
  clear HK ho o1 o7
  go_enter Tryz.func178,Tryz.ntmps178
  go_wp2_with fail
  refine (HAb.out 48 n y (Or.inr rfl)).mono ?_
  rintro e w3 ⟨rfl,v3,hr3,ho3⟩
  have HL:=qd hr3
  have HO:=qd (HO.out.trans ho3)
  clear hr3 ho3
  go_wp2_with fail
  go_end0
  rw [HQ.out]
  exact ⟨rfl,_,HL.out,HO.out⟩
 ·have HQ:=qd (HK.out.trans (by rw [if_neg (show ¬op=1 by omega),if_neg (show ¬op=2 by omega),if_neg (show ¬op=3 by omega),if_pos ho]))
  have e1:((op:Int)==1)=false:=by rw [beq_eq_false_iff_ne];omega
  have e2:((op:Int)==2)=false:=by rw [beq_eq_false_iff_ne];omega
  have e3:((op:Int)==3)=false:=by rw [beq_eq_false_iff_ne];omega
  have e4:((op:Int)==4)=true:=by rw [ho];rfl
  clear HK ho o1 o7
  go_enter Tryz.func178,Tryz.ntmps178
  go_wp2_with fail
  refine (HAb.out 32 n y (Or.inl rfl)).mono ?_
  rintro e w3 ⟨rfl,v3,hr3,ho3⟩
  have HL:=qd hr3
  have HO:=qd (HO.out.trans ho3)
  clear hr3 ho3
  go_wp2_with fail
  go_end0
  rw [HQ.out]
  exact ⟨rfl,_,HL.out,HO.out⟩
 ·have HQ:=qd (HK.out.trans (by rw [if_neg (show ¬op=1 by omega),if_neg (show ¬op=2 by omega),if_neg (show ¬op=3 by omega),if_neg (show ¬op=4 by omega),if_pos ho]))
  have e1:((op:Int)==1)=false:=by rw [beq_eq_false_iff_ne];omega
  have e2:((op:Int)==2)=false:=by rw [beq_eq_false_iff_ne];omega
  have e3:((op:Int)==3)=false:=by rw [beq_eq_false_iff_ne];omega
  have e4:((op:Int)==4)=false:=by rw [beq_eq_false_iff_ne];omega
  have e5:((op:Int)==5)=true:=by rw [ho];rfl
  clear HK ho o1 o7
  go_enter Tryz.func178,Tryz.ntmps178
  go_wp2_with fail
  refine (HAb.out 32 y n (Or.inl rfl)).mono ?_
  rintro e w3 ⟨rfl,v3,hr3,ho3⟩
  have HL:=qd hr3
  have HO:=qd (HO.out.trans ho3)
  clear hr3 ho3
  go_wp2_with fail
  go_end0
  rw [HQ.out]
  exact ⟨rfl,_,HL.out,HO.out⟩
 ·have HQ:=qd (HK.out.trans (by rw [if_neg (show ¬op=1 by omega),if_neg (show ¬op=2 by omega),if_neg (show ¬op=3 by omega),if_neg (show ¬op=4 by omega),if_neg (show ¬op=5 by omega),if_pos ho]))
  have e1:((op:Int)==1)=false:=by rw [beq_eq_false_iff_ne];omega
  have e2:((op:Int)==2)=false:=by rw [beq_eq_false_iff_ne];omega
  have e3:((op:Int)==3)=false:=by rw [beq_eq_false_iff_ne];omega
  have e4:((op:Int)==4)=false:=by rw [beq_eq_false_iff_ne];omega
  have e5:((op:Int)==5)=false:=by rw [beq_eq_false_iff_ne];omega
  have e6:((op:Int)==6)=true:=by rw [ho];rfl
  clear HK ho o1 o7
  go_enter Tryz.func178,Tryz.ntmps178
  go_wp2_with fail
  refine (HAb.out 48 y n (Or.inr rfl)).mono ?_
  rintro e w3 ⟨rfl,v3,hr3,ho3⟩
  have HL:=qd hr3
  have HO:=qd (HO.out.trans ho3)
  clear hr3 ho3
  go_wp2_with fail
  go_end0
  rw [HQ.out]
  exact ⟨rfl,_,HL.out,HO.out⟩
 ·have HQ:=qd (HK.out.trans (by rw [if_neg (show ¬op=1 by omega),if_neg (show ¬op=2 by omega),if_neg (show ¬op=3 by omega),if_neg (show ¬op=4 by omega),if_neg (show ¬op=5 by omega),if_neg (show ¬op=6 by omega),if_pos ho]))
  have e1:((op:Int)==1)=false:=by rw [beq_eq_false_iff_ne];omega
  have e2:((op:Int)==2)=false:=by rw [beq_eq_false_iff_ne];omega
  have e3:((op:Int)==3)=false:=by rw [beq_eq_false_iff_ne];omega
  have e4:((op:Int)==4)=false:=by rw [beq_eq_false_iff_ne];omega
  have e5:((op:Int)==5)=false:=by rw [beq_eq_false_iff_ne];omega
  have e6:((op:Int)==6)=false:=by rw [beq_eq_false_iff_ne];omega
  have e7:((op:Int)==7)=true:=by rw [ho];rfl
  clear HK ho o1 o7
  go_enter Tryz.func178,Tryz.ntmps178
  go_wp2_with fail
  refine (HEq.out ma y n HM.out).mono ?_
  rintro e w3 ⟨rfl,v3,hr3,ho3⟩
  have HL:=qd hr3
  have HO:=qd (HO.out.trans ho3)
  clear hr3 ho3
  go_wp2_with fail
  go_end0
  rw [HQ.out]
  exact ⟨rfl,_,HL.out,HO.out⟩
end
end Go.Proofs.YtcnebdjhhfnmoaaGreatDoor.Lo
namespace Go.Proofs.YtcnebdjhhfnmoaaGreatDoor.Lo
open Go.RowKit Go.Maps Go.WideMaps Go.WideElems Go.ChangeMaps Go.Proofs.YtcnebdjhhfnmoaaGreatDoor.Ju Go.Proofs.YtcnebdjhhfnmoaaGreatDoor.Me Go.Proofs.YtcnebdjhhfnmoaaGreatDoor.Ir
theorem dropc {α:Type}{l:List α}{j:Nat}{c:α}(h:l[j]?=some c):l.drop j=c::l.drop (j+1):=by
 obtain ⟨h1,h2⟩:=List.getElem?_eq_some_iff.1 h
 rw [List.drop_eq_getElem_cons h1,h2]
section
variable {w0 w:World} {p B:Nat} {v:Value} {k d:Nat} {s:List PtM}
theorem branch_any (conds:List CondM)(act:Nat)(A:Option Addr)(nb cap:Nat)(h:LR w0 w p B v k d s)(hr:Rd w0 4 nb A (conds.flatMap CondM.cells))(hn:conds.length=nb)(hnb:nb≤100000)(hok:∀c∈conds,c.ok)
  (hl:(s++(brL k ⟨conds,act⟩).1).length≤150000) (hk:(brL k ⟨conds,act⟩).2≤150000) :
  Calls Tryz.prog 163 #[.pointer (some ⟨p,0,none⟩),.agg #[.slice A nb cap,.int .u32 act]] w (LQ w0 w p B (brL k ⟨conds,act⟩).2 d (s++(brL k ⟨conds,act⟩).1)):=by
 have hk0:=(br_lay k ⟨conds,act⟩).le
 have hx:=Bk.new w 209 #[.slice A nb cap,.int .u32 act] (l:=[.slice A nb cap,.int .u32 act]) rfl
 have hb0:=oneb w (.cells #[.slice A nb cap,.int .u32 act] 209)
 have hpl:=h.box.lt
 have HL:=qd (h.below hb0)
 have HO:=qd (show Oth p w _ from Oth.of hb0)
 have HF:=qd (show conds.any nevB=true→brL k ⟨conds,act⟩=([],k) from fun e=>if_pos e)
 have HG:=qd (show ¬conds.any nevB=true→brL k ⟨conds,act⟩=((condsL (k+1) (k+1) conds).1++[retP act,hereP (k+1)],(condsL (k+1) (k+1) conds).2) from fun e=>if_neg e)
 obtain ⟨BL,hBL⟩:∃z,z=brL k ⟨conds,act⟩:=⟨_,rfl⟩
 rw [←hBL] at HF HG hl hk hk0 ⊢
 have HR:=qd hr
 have HN:=qd hn
 have HOk:=qd hok
 have hkb:k≤150000:=by omega
 have hsl:s.length≤150000:=by rw [List.length_append] at hl;omega
 have HLl:=qd hl
 clear h hr hn hok hBL hb0 hl
 go_enter Tryz.func163,Tryz.ntmps163
 go_upto_region 1 with fail
 generalize World.alloc w _=w1 at hx HL HO ⊢
 have hne:w.heap.size≠p:=by omega
 generalize w.heap.size=xb at hx hne ⊢
 have HX:=qd hx
 have HNe:=qd hne
 have y0:=hx.cell 0 rfl
 have yl:=hx.lt
 clear hx hne hpl
 have HCt:=qd (contains_any conds A nb cap w1 HN.out (HR.out.below HL.out.bel) HOk.out hnb)
 cases hcase:conds.any nevB with
 | true=>
  rw [hcase] at HCt
  have HQ:=qd (HF.out hcase)
  clear HF HG hcase
  go_wp2_with fail
  refine HCt.out.mono ?_
  rintro e w2 ⟨rfl,hb2⟩
  have HL:=qd (HL.out.below hb2)
  have HO:=qd (HO.out.trans (Oth.of hb2))
  clear hb2 y0 yl
  go_wp2_with fail
  go_end0
  rw [HQ.out]
  exact ⟨rfl,_,by simpa using HL.out,HO.out⟩
 | false=>
  rw [hcase] at HCt
  have HQ:=qd (HG.out (by rw [hcase];decide))
  have HNv:=qd hcase
  clear HF HG hcase
  obtain ⟨k1,hk1⟩:∃z,z=k+1:=⟨_,rfl⟩
  rw [←hk1] at HQ
  have HK1:=qd hk1
  have hk1b:k1≤150001:=by omega
  obtain ⟨EC,hEC⟩:∃z,z=condsL k1 k1 conds:=⟨_,rfl⟩
  rw [←hEC] at HQ
  have HEC:=qd hEC
  have HLn:=qd (show s.length+EC.1.length+2≤150000 by have:=HLl.out;rw [HQ.out] at this;simp only [List.length_append,List.length_cons,List.length_nil] at this;omega)
  have HKf:=qd (show EC.2≤150000 by have:=hk;rw [HQ.out] at this;exact this)
  clear hk1 hEC hk hk0 HLl
  go_wp2_with fail
  refine HCt.out.mono ?_
  rintro e w2 ⟨rfl,hb2⟩
  have HL:=qd (HL.out.below hb2)
  have HO:=qd (HO.out.trans (Oth.of hb2))
  have HX:=qd (HX.out.kept hb2)
  clear hb2 y0 yl HCt
  go_wp2_with fail
  refine (lnew_to HL.out (by omega) HK1.out).mono ?_
  rintro e w3 ⟨rfl,hr3,ho3⟩
  have HL:=qd hr3
  have HX:=qd (ho3.2 _ _ _ (by decide) HNe.out HX.out)
  have HO:=qd (HO.out.trans ho3)
  have y0:=HX.out.cell 0 rfl
  have yl:=HX.out.lt
  have HO3:=qd (Oth.refl p w3)
  clear hr3 ho3
  go_wp2_with fail
  clear y0 yl
  go_loopw [18] (fun iv wz=>∃(j kk:Nat) (v2:Value) (sj:List PtM),iv=.int .i64 j∧j≤nb∧sj.length≤150000∧kk≤150000∧k1≤kk∧Hid (LR w0 wz p B v2 kk d sj)∧Hid (Oth p w3 wz)∧Hid (sj++(condsL k1 kk (conds.drop j)).1=s++EC.1)∧Hid ((condsL k1 kk (conds.drop j)).2=EC.2)) (fun iv _=>nb-(intOf iv).toNat)
  case atStart=>exact ⟨0,k1,v,s,rfl,Nat.zero_le _,by omega,by have:=(conds_lay k1 conds k1 (Nat.le_refl _)).le;rw [←HEC.out] at this;have:=HKf.out;omega,Nat.le_refl _,HL,HO3,qd (by rw [HEC.out];rfl),qd (by rw [HEC.out];rfl)⟩
  case round=>
   clear HL HO3
   rename World=>wz
   obtain ⟨j,kk,v2,sj,rfl,hj,hsj,hkk,hk1k,HLz,HOz,HS,HKK⟩:=hrel
   by_cases hlt:j<nb
   ·obtain ⟨c,hc⟩:∃c,conds[j]?=some c:=⟨_,List.getElem?_eq_getElem (by have:=HN.out;omega)⟩
    obtain ⟨b,o,hA,hbl,hcell⟩:=(HR.out.below HLz.out.bel).one (f:=CondM.cells) (fun _=>rfl) (by omega) (by omega)
    obtain ⟨c0,c1,c2,c3⟩:=cond_cells hcell hc
    subst hA
    have hnv:nevB c=false:=by
     rw [←Bool.not_eq_true]
     intro e
     have:=List.any_eq_true.2 ⟨c,List.mem_of_getElem? hc,e⟩
     rw [HNv.out] at this;cases this
    have HCo:=qd (HOk.out c (List.mem_of_getElem? hc))
    have hpz:=HLz.out.box.lt
    obtain ⟨kh,hkh⟩:∃z,z=kk+1:=⟨_,rfl⟩
    have HKh:=qd hkh
    have hle:=(ask_lay kh c kh k1).le
    have hdc:=dropc hc
    have hS2:=HS.out
    have hK2:=HKK.out
    rw [hdc] at hS2 hK2
    unfold condsL at hS2 hK2
    rw [←hkh] at hS2 hK2
    simp only at hS2 hK2
    obtain ⟨AK,hAK⟩:∃z,z=ask kh c kh k1:=⟨_,rfl⟩
    rw [←hAK] at hS2 hK2 hle
    have hcl:=(conds_lay k1 (conds.drop (j+1)) AK.2 (by omega)).le
    rw [hK2] at hcl
    have HS2:=qd (show ((sj++AK.1)++[hereP kh])++(condsL k1 AK.2 (conds.drop (j+1))).1=s++EC.1 by rw [←hS2];simp)
    have HK2:=qd hK2
    have HSl:=qd (show (sj++AK.1).length+1≤150000 by have:=congrArg List.length HS2.out;simp only [List.length_append,List.length_cons,List.length_nil] at this ⊢;have:=HLn.out;omega)
    have HAl:=qd (show AK.2≤150000∧k1≤AK.2 by have:=HKf.out;omega)
    have HAK:=qd hAK
    have hkhb:kh≤150001:=by omega
    clear hc hcell hS2 hK2 hdc hle hcl hAK hkh HS HKK
    go_upto_region 6 with fail
    have hq:=Bk.new wz 89 #[.int .i64 c.arg,.int .u8 c.op,.int .u64 c.mask,.int .u64 c.val] (l:=[.int .i64 c.arg,.int .u8 c.op,.int .u64 c.mask,.int .u64 c.val]) rfl
    have hb5:=oneb wz (.cells #[.int .i64 c.arg,.int .u8 c.op,.int .u64 c.mask,.int .u64 c.val] 89)
    generalize World.alloc wz _=w5 at hq hb5 ⊢
    have HL5:=qd (HLz.out.below hb5)
    have HO5:=qd (HOz.out.trans (Oth.of hb5))
    have hnq:wz.heap.size≠p:=by omega
    generalize wz.heap.size=xq at hq hnq ⊢
    have HQx:=qd hq
    have HNq:=qd hnq
    clear c0 c1 c2 c3 hbl hq hb5 hnq hpz HLz HOz
    go_wp2_with fail
    refine (lnew_to HL5.out (by omega) HKh.out).mono ?_
    rintro e w6 ⟨rfl,hr6,ho6⟩
    have HL6:=qd hr6
    have HO6:=qd (HO5.out.trans ho6)
    have hq:=ho6.2 _ _ _ (by decide) HNq.out HQx.out
    have q0:=hq.cell 0 rfl
    have q1:=hq.cell 1 rfl
    have q2:=hq.cell 2 rfl
    have q3:=hq.cell 3 rfl
    have ql:=hq.lt
    clear hr6 ho6 hq HL5 HO5
    go_wp2_with fail
    refine (ask_any c kh k1 HL6.out (by omega) (by omega) HCo.out hnv).mono ?_
    rintro e w7 ⟨rfl,v7,hr7,ho7⟩
    rw [←HAK.out] at hr7
    have HL7:=qd hr7
    have HO7:=qd (HO6.out.trans ho7)
    clear hr7 ho7 q0 q1 q2 q3 ql HL6 HO6
    go_wp2_with fail
    refine (lhere_any kh HL7.out (by have:=HSl.out;omega)).mono ?_
    rintro e w8 ⟨rfl,v8,hr8,ho8⟩
    have HL8:=qd hr8
    have HO8:=qd (HO7.out.trans ho8)
    clear hr8 ho8 HL7 HO7
    go_wp2_with fail
    go_roundw
    case rel=>exact ⟨j+1,AK.2,v8,_,by go_num,by omega,by have:=HSl.out;rw [List.length_append];exact this,HAl.out.1,HAl.out.2,HL8,HO8,HS2,HK2⟩
    case measure=>simp [intOf];omega
   ·have hjn:j=nb:=by omega
    have HS2:=qd (show sj=s++EC.1 by have:=HS.out;rw [List.drop_of_length_le (by have:=HN.out;omega)] at this;simpa [condsL] using this)
    have HK2:=qd (show kk=EC.2 by have:=HKK.out;rw [List.drop_of_length_le (by have:=HN.out;omega)] at this;exact this)
    have hx:=HOz.out.2 _ _ _ (by decide) HNe.out HX.out
    have y0:=hx.cell 0 rfl
    have y1:=hx.cell 1 rfl
    have yl:=hx.lt
    clear hx HS HKK hjn
    go_wp2_with fail
    refine (says_any act HLz.out (by omega)).mono ?_
    rintro e w6 ⟨rfl,v6,hr6,ho6⟩
    have HL6:=qd hr6
    have HO6:=qd (HOz.out.trans ho6)
    clear hr6 ho6 y0 y1 yl
    go_wp2_with fail
    refine (lhere_any k1 HL6.out (by rw [List.length_append];simp only [List.length_cons,List.length_nil];omega)).mono ?_
    rintro e w7 ⟨rfl,v7,hr7,ho7⟩
    have HL7:=qd hr7
    have HO7:=qd (HO.out.trans (HO6.out.trans ho7))
    clear hr7 ho7
    go_wp2_with fail
    go_end0
    rw [HQ.out]
    exact ⟨rfl,_,by have:=HL7.out;rw [HK2.out,HS2.out] at this;simpa using this,HO7.out⟩
end
end Go.Proofs.YtcnebdjhhfnmoaaGreatDoor.Lo
namespace Go.Proofs.YtcnebdjhhfnmoaaGreatDoor.Lo
open Go.RowKit Go.Maps Go.WideMaps Go.WideElems Go.ChangeMaps Go.Proofs.YtcnebdjhhfnmoaaGreatDoor.Ju Go.Proofs.YtcnebdjhhfnmoaaGreatDoor.Me Go.Proofs.YtcnebdjhhfnmoaaGreatDoor.Ir
structure BrIn (w0:World)(brs:List BrV)(A:Option Addr):Prop where
 row:Rd w0 2 brs.length A (brs.flatMap BrV.cells)
 len:brs.length≤100000
 con:∀b∈brs,Rd w0 4 b.m.conds.length b.A (b.m.conds.flatMap CondM.cells)∧b.m.conds.length≤100000∧∀q∈b.m.conds,q.ok
theorem br_cellsL {w:World}{b o k:Nat}{l:List BrV}{x:BrV}(hc:∀k x,l[k]?=some x→∀j v,(BrV.cells x)[j]?=some v→w.cell? ⟨b,o+(k*2+j),none⟩=some v)(h:l[k]?=some x) :
  w.cell? ⟨b,o+k*2,none⟩=some (.slice x.A x.m.conds.length x.cap)∧w.cell? ⟨b,o+k*2+1,none⟩=some (.int .u32 x.m.act):=
 ⟨by have:=hc k x h 0 _ rfl;simpa using this,by have:=hc k x h 1 _ rfl;simpa [Nat.add_assoc] using this⟩
section
variable {w0 w:World} {p B:Nat} {v:Value} {k d:Nat} {s:List PtM}
theorem call_any (num:Nat)(brs:List BrV)(A:Option Addr)(nB cap:Nat)(h:LR w0 w p B v k d s)(hb:BrIn w0 brs A)(hn:brs.length=nB)
  (hl:(s++(callL d k ⟨num,brs.map BrV.m⟩).1).length≤150000) (hk:(callL d k ⟨num,brs.map BrV.m⟩).2≤150000) :
  Calls Tryz.prog 135 #[.pointer (some ⟨p,0,none⟩),.agg #[.int .u32 num,.slice A nB cap]] w (LQ w0 w p B (callL d k ⟨num,brs.map BrV.m⟩).2 d (s++(callL d k ⟨num,brs.map BrV.m⟩).1)):=by
 have hx:=Bk.new w 166 #[.int .u32 num,.slice A nB cap] (l:=[.int .u32 num,.slice A nB cap]) rfl
 have hb0:=oneb w (.cells #[.int .u32 num,.slice A nB cap] 166)
 have hpl:=h.box.lt
 have HL:=qd (h.below hb0)
 have HO:=qd (show Oth p w _ from Oth.of hb0)
 obtain ⟨k1,hk1⟩:∃z,z=k+1:=⟨_,rfl⟩
 obtain ⟨k2,hk2⟩:∃z,z=k1+1:=⟨_,rfl⟩
 have HQ:=qd (show callL d k ⟨num,brs.map BrV.m⟩=(ifC 21 num k1 k2::hereP k1::((brsL k2 (brs.map BrV.m)).1++[hereP k2,retP d]),(brsL k2 (brs.map BrV.m)).2) by rw [hk2,hk1];rfl)
 obtain ⟨CL,hCL⟩:∃z,z=callL d k ⟨num,brs.map BrV.m⟩:=⟨_,rfl⟩
 rw [←hCL] at HQ hl hk ⊢
 obtain ⟨EC,hEC⟩:∃z,z=brsL k2 (brs.map BrV.m):=⟨_,rfl⟩
 rw [←hEC] at HQ
 have HEC:=qd hEC
 have HLn:=qd (show s.length+EC.1.length+4≤150000 by have:=hl;rw [HQ.out] at this;simp only [List.length_append,List.length_cons,List.length_nil] at this;omega)
 have HKf:=qd (show EC.2≤150000 by have:=hk;rw [HQ.out] at this;exact this)
 have hk2b:k2≤150000:=by
  have:=(brs_lay (brs.map BrV.m) k2).le
  rw [←hEC] at this
  have:=HKf.out
  omega
 have hsl:s.length≤149996:=by have:=HLn.out;omega
 have HK1:=qd hk1
 have HK2:=qd hk2
 have hk1b:k1≤150000:=by omega
 have hkb:k≤150000:=by omega
 have HBi:=qd hb
 have HN:=qd hn
 have hnB:nB≤100000:=by rw [←hn];exact hb.len
 clear h hb hn hCL hEC hb0 hl hk hk1 hk2
 go_enter Tryz.func135,Tryz.ntmps135
 go_upto_region 1 with fail
 generalize World.alloc w _=w1 at hx HL HO ⊢
 have hne:w.heap.size≠p:=by omega
 generalize w.heap.size=xb at hx hne ⊢
 have HX:=qd hx
 have HNe:=qd hne
 have HO1:=qd (Oth.refl p w1)
 have HOw:=HO
 clear hx hne hpl HO
 have HO:=HO1
 clear HO1
 go_region_with (go_at_call 49;first|(refine (lnew_to HLn.out (by omega) HK2.out).mono ?_;rintro e w3 ⟨rfl,hr3,ho3⟩;have HL:=qd hr3;have HO:=qd (HOn.out.trans ho3);clear hr3 ho3 HLn HOn)|(refine (lnew_to (HL.out.below (Below.refl _ _).drew) (by omega) HK1.out).mono ?_;rintro e w2 ⟨rfl,hr2,ho2⟩;have HLn:=qd hr2;have HOn:=qd ((HO.out.trans (Oth.of (Below.refl _ _).drew)).trans ho2);clear hr2 ho2))
 have hx:=HO.out.2 _ _ _ (by decide) HNe.out HX.out
 have y0:=hx.cell 0 rfl
 have yl:=hx.lt
 have z0:=hx.drew.cell 0 rfl
 have zl:=hx.drew.lt
 clear hx
 go_wp2_with fail
 go_region_with (go_at_call 96;refine (lif_any 16 num k1 k2 (Or.inl rfl) (HL.out.below (Below.refl _ _).drew) (by first|omega|(simp only [List.length_append,List.length_cons,List.length_nil];omega))).mono ?_;rintro e w2 ⟨rfl,v2,hr2,ho2⟩;have HL9:=qd hr2;have HO9:=qd ((HO.out.trans (Oth.of (Below.refl _ _).drew)).trans ho2);have HD:=qd ((Oth.of (Below.refl _ _).drew).trans ho2);clear hr2 ho2 HL HO;have HL:=HL9;have HO:=HO9;clear HL9 HO9)
 clear y0 yl z0 zl HD
 go_wp2_with fail
 refine (lhere_any k1 HL.out (by first|omega|(simp only [List.length_append,List.length_cons,List.length_nil];omega))).mono ?_
 rintro e w4 ⟨rfl,v4,hr4,ho4⟩
 have HL:=qd hr4
 have HO:=qd (HO.out.trans ho4)
 clear hr4 ho4
 have hx:=HO.out.2 _ _ _ (by decide) HNe.out HX.out
 have y1:=hx.cell 1 rfl
 have yl:=hx.lt
 clear hx
 go_wp2_with fail
 clear y1 yl
 go_loopw [32] (fun iv wz=>∃(j kk:Nat) (v2:Value) (sj:List PtM),iv=.int .i64 j∧j≤nB∧sj.length≤150000∧kk≤150000∧Hid (LR w0 wz p B v2 kk d sj)∧Hid (Oth p w1 wz)∧Hid (sj++(brsL kk ((brs.map BrV.m).drop j)).1=((s++[ifC 21 num k1 k2])++[hereP k1])++EC.1)∧Hid ((brsL kk ((brs.map BrV.m).drop j)).2=EC.2)) (fun iv _=>nB-(intOf iv).toNat)
 case atStart=>exact ⟨0,k2,_,(s++[ifC 21 num k1 k2])++[hereP k1],rfl,Nat.zero_le _,by simp only [List.length_append,List.length_cons,List.length_nil];omega,hk2b,HL,HO,qd (by rw [HEC.out];rfl),qd (by rw [HEC.out];rfl)⟩
 case round=>
  clear HL HO
  rename World=>wz
  obtain ⟨j,kk,v2,sj,rfl,hj,hsj,hkk,HLz,HOz,HS,HKK⟩:=hrel
  by_cases hlt:j<nB
  ·obtain ⟨b,hbr⟩:∃b,brs[j]?=some b:=⟨_,List.getElem?_eq_getElem (by have:=HN.out;omega)⟩
   obtain ⟨gb,go,hA,hbl,hcell⟩:=(HBi.out.row.below HLz.out.bel).one (f:=BrV.cells) (fun _=>rfl) (by omega) (by have:=HN.out;omega)
   obtain ⟨c0,c1⟩:=br_cellsL hcell hbr
   subst hA
   obtain ⟨hcr,hcn,hcok⟩:=HBi.out.con b (List.mem_of_getElem? hbr)
   have hpz:=HLz.out.box.lt
   have hmb:(brs.map BrV.m)[j]?=some b.m:=by rw [List.getElem?_map,hbr];rfl
   have hS2:=HS.out
   have hK2:=HKK.out
   rw [dropc hmb] at hS2 hK2
   unfold brsL at hS2 hK2
   simp only at hS2 hK2
   have hcl:=(brs_lay ((brs.map BrV.m).drop (j+1)) (brL kk b.m).2).le
   rw [hK2] at hcl
   have HBr:=qd (fun W vv (hh:LR w0 W p B vv kk d sj)=>branch_any b.m.conds b.m.act b.A b.m.conds.length b.cap hh hcr rfl hcn hcok
    (show (sj++(brL kk b.m).1).length≤150000 by have:=congrArg List.length hS2;simp only [List.length_append,List.length_cons,List.length_nil] at this ⊢;have:=HLn.out;omega)
    (show (brL kk b.m).2≤150000 by have:=HKf.out;omega))
   have HS2:=qd (show (sj++(brL kk b.m).1)++(brsL (brL kk b.m).2 ((brs.map BrV.m).drop (j+1))).1=((s++[ifC 21 num k1 k2])++[hereP k1])++EC.1 by rw [←hS2];simp)
   have HK2:=qd hK2
   have HSl:=qd (show (sj++(brL kk b.m).1).length≤150000 by have:=congrArg List.length hS2;simp only [List.length_append,List.length_cons,List.length_nil] at this ⊢;have:=HLn.out;omega)
   have HAl:=qd (show (brL kk b.m).2≤150000 by have:=HKf.out;omega)
   obtain ⟨AK,hAK⟩:∃z,z=brL kk b.m:=⟨_,rfl⟩
   have hbm:(⟨b.m.conds,b.m.act⟩:BrM)=b.m:=rfl
   rw [hbm,←hAK] at HBr
   rw [←hAK] at HS2 HK2 HSl HAl
   clear hbr hcell hS2 hK2 hcl hAK HS HKK hcr hcn hcok hmb hbm
   go_upto_region 7 with fail
   have hq:=Bk.new wz 209 #[.slice b.A b.m.conds.length b.cap,.int .u32 b.m.act] (l:=[.slice b.A b.m.conds.length b.cap,.int .u32 b.m.act]) rfl
   have hb5:=oneb wz (.cells #[.slice b.A b.m.conds.length b.cap,.int .u32 b.m.act] 209)
   generalize World.alloc wz _=w5 at hq hb5 ⊢
   have HL5:=qd (HLz.out.below hb5)
   have HO5:=qd (HOz.out.trans (Oth.of hb5))
   generalize wz.heap.size=xq at hq ⊢
   have q0:=hq.cell 0 rfl
   have q1:=hq.cell 1 rfl
   have ql:=hq.lt
   clear c0 c1 hbl hq hb5 hpz HLz HOz
   go_wp2_with fail
   refine (HBr.out _ _ HL5.out).mono ?_
   rintro e w6 ⟨rfl,v6,hr6,ho6⟩
   have HL6:=qd hr6
   have HO6:=qd (HO5.out.trans ho6)
   clear hr6 ho6 HL5 HO5 q0 q1 ql HBr
   go_wp2_with fail
   go_roundw
   case rel=>exact ⟨j+1,AK.2,v6,sj++AK.1,by go_num,by omega,HSl.out,HAl.out,HL6,HO6,HS2,HK2⟩
   case measure=>simp [intOf];omega
  ·have HS2:=qd (show sj=((s++[ifC 21 num k1 k2])++[hereP k1])++EC.1 by have:=HS.out;rw [List.drop_of_length_le (by rw [List.length_map];have:=HN.out;omega)] at this;simpa [brsL] using this)
   have HK2:=qd (show kk=EC.2 by have:=HKK.out;rw [List.drop_of_length_le (by rw [List.length_map];have:=HN.out;omega)] at this;exact this)
   clear HS HKK
   go_wp2_with fail
   refine (lhere_any k2 HLz.out (by omega)).mono ?_
   rintro e w6 ⟨rfl,v6,hr6,ho6⟩
   have HL6:=qd hr6
   have HO6:=qd (HOz.out.trans ho6)
   have y2:=hr6.box.cell 2 rfl
   have yl:=hr6.box.lt
   clear hr6 ho6
   go_wp2_with fail
   refine (says_any d HL6.out (by rw [List.length_append];simp only [List.length_cons,List.length_nil];omega)).mono ?_
   rintro e w7 ⟨rfl,v7,hr7,ho7⟩
   have HL7:=qd hr7
   have HO7:=qd (HOw.out.trans (HO6.out.trans ho7))
   clear hr7 ho7 y2 yl
   go_wp2_with fail
   go_end0
   rw [HQ.out]
   exact ⟨rfl,_,by have:=HL7.out;rw [HK2.out,HS2.out] at this;simpa using this,HO7.out⟩
end
end Go.Proofs.YtcnebdjhhfnmoaaGreatDoor.Lo
