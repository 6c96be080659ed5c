/- needed, walked. -/
import Derived.Test.YtcnebdjhhfnmoaaGreatDoorL22
import Derived.Test.YtcnebdjhhfnmoaaGreatDoorL21
import Derived.Test.YtcnebdjhhfnmoaaGreatDoorL01
set_option maxHeartbeats 32000000
set_option maxRecDepth 100000
namespace Go.Proofs.YtcnebdjhhfnmoaaGreatDoor.Ir
open Go.RowKit Go.Maps Go.WideMaps Go.WideElems Go.ChangeMaps
theorem infoPC:(Tryz.prog.info? 89).map (fun i=>(i.zero,i.size,i.bytes))=some (some (.agg #[.int .i64 0,.int .u8 0,.int .u64 0,.int .u64 0]),4,32):=by kernel_rfl
theorem zeroU (w:World):(zeroValue 97).run Tryz.prog w=.ok (.agg #[]) w:=by kernel_rfl
theorem own_slice {w:World}{B:Nat}{e:TypeId}{z n:Nat}{v:Value}{xs:List Value}(h:w.ownsRow B e z v n xs):∃A cp,v=.slice A n cp:=by
 obtain ⟨_,⟨h2,h3⟩|⟨g,cap,cur,h2,_⟩⟩:=h
 ·subst h3;exact ⟨none,0,h2⟩
 ·exact ⟨_,_,h2⟩
theorem one_alloc' (w:World)(o:Obj):Below w.heap.size w (w.alloc o):=(Below.refl w.heap.size w).alloc (Nat.le_refl _) o
theorem u64_of {v:Value}{x:Nat}{d:DataW Unit}{ps:List MemPlace}(h:plainElem Tryz.prog 57 v=some (d,ps))(hd:d=.lit (.int .u64 (x:Nat))):v=.int .u64 (x:Nat):=by
 obtain ⟨a,rfl,hz,_⟩:=plainElem_int_inv Tryz.underlying57 h
 injection hz with h1 _
 rw [hd] at h1
 injection h1 with h1
 injection h1 with _ h1
 rw [h1]
theorem eq_case {E:List (Int×Nat)}(a:Int)(x:Nat):(a,x)∈E∨(∀e∈E,e.1≠a)∨∃y,(a,y)∈E∧y≠x∧(a,x)∉E:=by
 by_cases h1:(a,x)∈E
 ·exact Or.inl h1
 ·by_cases h2:∀e∈E,e.1≠a
  ·exact Or.inr (Or.inl h2)
  ·obtain ⟨e,h3⟩:=Classical.not_forall.1 h2
   obtain ⟨h4,h5⟩:=Classical.not_imp.1 h3
   have h6:e.1=a:=Classical.not_not.1 h5
   refine Or.inr (Or.inr ⟨e.2,by rw [←h6];exact h4,fun h7=>h1 (by rw [←h6,←h7];exact h4),h1⟩)
theorem keyLits_ok {ks:List CondM}(h:∀c∈ks,c.ok):∀k∈ks.map condK,WideAt.IsKeyLit k:=fun k hk=>by
 obtain ⟨c,hc,rfl⟩:=List.mem_map.1 hk
 exact condKeyed.key (keyCond (h c hc))
theorem not_key {ks:List CondM}{c:CondM}(h:∀c∈ks,c.ok)(hc:c.ok)(hn:c∉ks):condK c∉ks.map condK:=fun hk=>by
 obtain ⟨d,hd,e⟩:=List.mem_map.1 hk
 exact hn (condK_inj (h d hd) hc e▸hd)
theorem needed_any (l:List CondM)(n:Nat)(A:Option Addr)(cp:Nat)(w:World)(hok:∀c∈l,c.ok)(hl:l.length=n)(hn:n≤60000)(hr:Rd w 4 n A (l.flatMap CondM.cells)) :
  Calls Tryz.prog 104 #[.slice A n cp] w (NeedPost l w):=by
 have hW:=nw_start w
 obtain ⟨F,hF⟩:∃F,F=needF [] [] l:=⟨_,rfl⟩
 have HF0:=qd hF
 have HOK:=qd hok
 have HL:=qd hl
 have HR:=qd hr
 clear hr hok hF
 have hmm:=@run_makeMap Tryz.prog
 go_enter Tryz.func104,Tryz.ntmps104
 go_wp2_with fail
 generalize hw2:(w.alloc (.map #[] 0)).alloc (.map #[] 0)=w2 at hW ⊢
 clear hw2 hmm
 have HW0:=qd hW
 clear hW
 go_loopw [4,17] (fun av iv wr=>∃(i:Nat) (E:List (Int×Nat)) (left:List CondM) (B:Option Addr) (c9:Nat),iv=.int .i64 i∧av=.slice B left.length c9∧i≤n∧left.length≤i∧Hid (F=needF E left (l.drop i))∧Hid (NW w wr left E (.slice B left.length c9) left (2*i))∧Hid (Fun E)∧Hid (∀c∈left,c.ok)) (fun _ iv _=>n-(intOf iv).toNat)
 case atStart=>exact ⟨0,[],[],none,0,rfl,rfl,Nat.zero_le _,Nat.le_refl _,HF0,HW0,qd (fun p hp=>by simp at hp),qd (by simp)⟩
 case round=>
  clear HW0
  obtain ⟨i,E,left,B,c9,rfl,rfl,hi,hli,HF,HW,HE,HO⟩:=hrel
  by_cases hlt:i<n
  ·obtain ⟨c,hc⟩:∃c,l[i]?=some c:=⟨_,List.getElem?_eq_getElem (by have:=HL.out;omega)⟩
   obtain ⟨b,o,hA,hbl,hcell⟩:=(HR.out.below HW.out.bel).one (fun _=>rfl) (by omega) (by omega)
   subst hA
   obtain ⟨c0,c1,c2,c3⟩:=cond_cells hcell hc
   have hcok:=HOK.out c (List.mem_of_getElem? hc)
   have HN:=qd (fun W=>never_any c W hcok)
   have HAl:=qd (fun W=>always_any c W hcok)
   have HX:=qd hc
   have HCK:=qd hcok
   clear hcell hc hcok
   go_wp2_with fail
   refine (HN.out _).mono ?_
   clear HN c0 c1 c2 c3 hbl
   rintro e w3 ⟨rfl,os,hw3⟩
   have hb3:=bel_grow (wr.alloc (.cells #[.int .i64 c.arg,.int .u8 c.op,.int .u64 c.mask,.int .u64 c.val] 89)) os
   rw [show Sort.grow (wr.alloc (.cells #[.int .i64 c.arg,.int .u8 c.op,.int .u64 c.mask,.int .u64 c.val] 89)) os=w3 from hw3.symm] at hb3
   clear hw3
   have hbk:Bk w3 wr.heap.size 89 c.cells:=(Bk.new wr _ _ rfl).kept hb3
   have hb4:Below wr.heap.size wr w3:=((Below.refl _ wr).alloc (Nat.le_refl _) _).trans (hb3.mono (by simp))
   have HW3:=qd (HW.out.kept hb4)
   have hg2:=HW.out.size
   generalize hg:wr.heap.size=g at *
   clear hg hb3 hb4 HW
   cases hz:neverB c with
   | true=>
    have HV:=qd (HF0.out.symm.trans (need_never HF.out HX.out hz))
    clear hz hbk
    go_wp2_with fail
    go_ret2
    exact need_none HW3.out (Below.refl _ _) HV.out
   | false=>
    have k0:=hbk.cell 0 rfl
    have k1:=hbk.cell 1 rfl
    have k2:=hbk.cell 2 rfl
    have k3:=hbk.cell 3 rfl
    have hgl:=hbk.lt
    have HBk:=qd hbk
    have HZ:=qd hz
    clear hbk hz
    go_upto_if 25 with fail
    go_cut [] from 23 to 44 (fun wx=>∃E',Hid (E'=if c.op=1 then E++[(c.arg,c.val)] else E)∧Hid (NW w wx left E' (.slice B left.length c9) left (2*i+1))∧Hid (Bk wx g 89 c.cells)∧Hid (Fun E')∧Hid (c.op=1→(c.arg,c.val)∈E∨∀e∈E,e.1≠c.arg))
    case first=>
     by_cases hop:c.op=1
     ·have e1:((c.op:Int)==1)=true:=by rw [hop];rfl
      have HOP:=qd hop
      have HBAD:=qd (fun h1=>HF0.out.symm.trans (need_bad HF.out HX.out hop h1))
      clear hop
      have wv:=wf3 HCK.out.2.2.2.2
      have wa:=wf1 HCK.out.1 HCK.out.2.1
      rcases eq_case (E:=E) c.arg c.val with hE|hE|⟨y,hE,hy,hE2⟩
      ·have hat:=((eq_at (H:=Unit) E HE.out c.arg).1 _ hE)
       have HEE:=qd hE
       clear hE
       go_wp2_with (first
        | (at_lookup;go_loud (refine wpList_lookup_ok _ rfl _ _ 254 rfl 3 57 intKeyed Tryz.underlying254 (plainElem Tryz.prog 57) (Tryz.zeroValue57 _) (zd:=.lit (.int .u64 0)) (zp:=[]) (plainElem_int Tryz.underlying57 (by decide)) (w.heap.size+1) (2*i) (eqD E) rfl HW3.out.eq _ (.int .i64 c.arg) rfl (keyOf_int_mk Tryz.underlying3 wa) true hat.1 ?_);intro v ps hv;obtain rfl:=u64_of hv (hat.2 _);clear hv)
        | (at_mapUpdate;go_loud (refine wpList_mapUpdate_own _ rfl _ _ _ 254 rfl 3 57 intKeyed Tryz.underlying254 (plainElem Tryz.prog 57) (w.heap.size+1) (2*i) (eqD E) rfl HW3.out.eq (by unfold maxLen;omega) _ _ (.int .i64 c.arg) rfl rfl (keyOf_int_mk Tryz.underlying3 wa) (.lit (.int .u64 (c.val:Nat))) [] (plainElem_int Tryz.underlying57 wv) ?_);intro w4 hm4 hg4;have HW4:=qd (HW3.out.addEq hm4 hg4);have HBk4:=qd (HBk.out.grown hg4 (fun e=>by injection e with e;omega));clear hm4 hg4))
       trace_state
       clear e1
       go_meet
       case rel=>exact ⟨_,qd (by rw [if_pos HOP.out]),HW4,HBk4,qd (HE.out.snoc (Or.inl HEE.out)),qd (fun _=>Or.inl HEE.out)⟩
      ·have hat:=((eq_at (H:=Unit) E HE.out c.arg).2 hE)
       have HEE:=qd hE
       clear hE
       go_wp2_with (first
        | (at_lookup;go_loud (refine wpList_lookup_ok _ rfl _ _ 254 rfl 3 57 intKeyed Tryz.underlying254 (plainElem Tryz.prog 57) (Tryz.zeroValue57 _) (zd:=.lit (.int .u64 0)) (zp:=[]) (plainElem_int Tryz.underlying57 (by decide)) (w.heap.size+1) (2*i) (eqD E) rfl HW3.out.eq _ (.int .i64 c.arg) rfl (keyOf_int_mk Tryz.underlying3 wa) false hat ?_);intro v ps hv;clear hv)
        | (at_mapUpdate;go_loud (refine wpList_mapUpdate_own _ rfl _ _ _ 254 rfl 3 57 intKeyed Tryz.underlying254 (plainElem Tryz.prog 57) (w.heap.size+1) (2*i) (eqD E) rfl HW3.out.eq (by unfold maxLen;omega) _ _ (.int .i64 c.arg) rfl rfl (keyOf_int_mk Tryz.underlying3 wa) (.lit (.int .u64 (c.val:Nat))) [] (plainElem_int Tryz.underlying57 wv) ?_);intro w4 hm4 hg4;have HW4:=qd (HW3.out.addEq hm4 hg4);have HBk4:=qd (HBk.out.grown hg4 (fun e=>by injection e with e;omega));clear hm4 hg4))
       clear e1
       go_meet
       case rel=>exact ⟨_,qd (by rw [if_pos HOP.out]),HW4,HBk4,qd (HE.out.snoc (Or.inr HEE.out)),qd (fun _=>Or.inr HEE.out)⟩
      ·have hat:=((eq_at (H:=Unit) E HE.out c.arg).1 _ hE)
       have HV:=qd (HBAD.out (fun h=>h.elim hE2 fun h=>h _ hE rfl))
       clear hE hE2
       have hne:((y:Int) != (c.val:Int))=true:=by rw [bne_iff_ne];omega
       go_wp2_with (at_lookup;go_loud (refine wpList_lookup_ok _ rfl _ _ 254 rfl 3 57 intKeyed Tryz.underlying254 (plainElem Tryz.prog 57) (Tryz.zeroValue57 _) (zd:=.lit (.int .u64 0)) (zp:=[]) (plainElem_int Tryz.underlying57 (by decide)) (w.heap.size+1) (2*i) (eqD E) rfl HW3.out.eq _ (.int .i64 c.arg) rfl (keyOf_int_mk Tryz.underlying3 wa) true hat.1 ?_);intro v ps hv;obtain rfl:=u64_of hv (hat.2 _);clear hv)
       go_ret2
       exact need_none HW3.out (Below.refl _ _) HV.out
     ·have e1:((c.op:Int)==1)=false:=by rw [beq_eq_false_iff_ne];omega
      go_wp2_with fail
      go_meet
      case rel=>exact ⟨E,qd (by rw [if_neg hop]),qd (HW3.out.mono (by omega)),HBk,HE,qd (fun h=>absurd h hop)⟩
    case rest=>
     clear k0 k1 k2 k3 hgl HBk HW3
     obtain ⟨E',HE',HW4,HBk,HFn,HC1⟩:=hcut
     have j0:=HBk.out.cell 0 rfl
     have j1:=HBk.out.cell 1 rfl
     have j2:=HBk.out.cell 2 rfl
     have j3:=HBk.out.cell 3 rfl
     have jl:=HBk.out.lt
     have hkey:=keyCond HCK.out
     have HFN:=qd (need_on HF.out HX.out HZ.out HC1.out)
     rw [←HE'.out] at HFN
     rename World=>wc
     by_cases hm:c∈left
     ·have hb:has (unD (left.map condK):DataW Unit) (condK c)=true:=(un_has (H:=Unit) _ (keyLits_ok HO.out) (condK c)).1 (List.mem_map_of_mem hm)
      rw [if_pos (Or.inl hm)] at HFN
      clear hm
      go_wp2_with (at_lookup;go_loud (refine wpList_lookup_ok _ rfl _ _ 253 rfl 89 97 condKeyed Tryz.underlying253 unitElem (zeroU _) (zd:=.agg []) (zp:=[]) unitElem_mk w.heap.size (2*i+1) (unD (left.map condK)) rfl HW4.out.th _ (condK c) rfl hkey _ hb ?_);intro v ps hv;obtain rfl:=(unitElem_inv hv).1;clear hv)
      go_roundw
      case rel=>exact ⟨i+1,E',left,B,c9,by go_num,rfl,by omega,by omega,HFN,qd ((HW4.out.kept (one_alloc' _ _)).mono (by omega)),HFn,HO⟩
      case measure=>simp [intOf];omega
     ·have hb:has (unD (left.map condK):DataW Unit) (condK c)=false:=(un_has (H:=Unit) _ (keyLits_ok HO.out) (condK c)).2 (not_key HO.out HCK.out hm)
      have HM:=qd hm
      clear hm
      go_wp2_with (at_lookup;go_loud (refine wpList_lookup_ok _ rfl _ _ 253 rfl 89 97 condKeyed Tryz.underlying253 unitElem (zeroU _) (zd:=.agg []) (zp:=[]) unitElem_mk w.heap.size (2*i+1) (unD (left.map condK)) rfl HW4.out.th _ (condK c) rfl hkey _ hb ?_);intro v ps hv;obtain rfl:=(unitElem_inv hv).1;clear hv)
      have HAlw:=qd HAl.out
      refine (HAlw.out _).mono ?_
      rintro e w5 ⟨rfl,os5,hw5⟩
      have hb5:=bel_grow (wc.alloc (.cells #[] 97)) os5
      rw [show Sort.grow (wc.alloc (.cells #[] 97)) os5=w5 from hw5.symm] at hb5
      clear hw5 j0 j1 j2 j3 jl
      have hb6:Below wc.heap.size wc w5:=(one_alloc' wc _).trans (hb5.mono (by simp))
      have HW5:=qd (HW4.out.kept hb6)
      have hbk5:=HBk.out.kept hb6
      clear hb5 hb6
      cases hz2:alwaysB c with
      | true=>
       rw [if_pos (Or.inr hz2)] at HFN
       clear hz2 hbk5
       go_wp2_with fail
       go_roundw
       case rel=>exact ⟨i+1,E',left,B,c9,by go_num,rfl,by omega,by omega,HFN,qd (HW5.out.mono (by omega)),HFn,HO⟩
       case measure=>simp [intOf];omega
      | false=>
       rw [if_neg (fun h=>h.elim HM.out (fun h=>by rw [hz2] at h;cases h))] at HFN
       clear hz2
       have j0:=hbk5.cell 0 rfl
       have j1:=hbk5.cell 1 rfl
       have j2:=hbk5.cell 2 rfl
       have j3:=hbk5.cell 3 rfl
       have jl:=hbk5.lt
       have HBk5:=qd hbk5
       clear hbk5
       go_wp2_with (first
        | (at_mapUpdate;go_loud (refine wpList_mapUpdate_own _ rfl _ _ _ 253 rfl 89 97 condKeyed Tryz.underlying253 unitElem w.heap.size (2*i+1) (unD (left.map condK)) rfl HW5.out.th (by unfold maxLen;omega) _ _ (condK c) rfl rfl hkey (.agg []) [] unitElem_mk ?_);intro w6 hm6 hg6;have HW6:=qd (HW5.out.addTh hm6 hg6);have hbk6:=HBk5.out.grown hg6 (fun e=>by injection e with e;omega);have i0:=hbk6.cell 0 rfl;have i1:=hbk6.cell 1 rfl;have i2:=hbk6.cell 2 rfl;have i3:=hbk6.cell 3 rfl;have il:=hbk6.lt;clear hm6 hg6 hbk6)
        | (at_builtin;go_loud (refine append_one rfl (.tmp 59) (.tmp 61) 84 89 rfl _ 4 32 infoPC Tryz.underlying84 rfl (by decide) (by decide) (w.heap.size+2) _ left.length (left.flatMap CondM.cells) rfl (HW6.out.kept (one_alloc' _ _)).row w6.heap.size [.int .i64 c.arg,.int .u8 c.op,.int .u64 c.mask,.int .u64 c.val] rfl rfl (Bk.new w6 _ _ rfl) (by intro u hu;simp at hu;rcases hu with rfl|rfl|rfl|rfl<;>rfl) (by omega) (by have:=HW6.out.size;simp;omega) ?_);intro v' w8 hown' hgrow hat;have HW8:=qd ((HW6.out.kept (one_alloc' w6 (.cells #[.int .i64 c.arg,.int .u8 c.op,.int .u64 c.mask,.int .u64 c.val] 89))).addRow (c:=c) hown' hgrow);obtain ⟨A7,c7,hv7⟩:=own_slice hown';subst hv7;clear hown' hgrow hat))
       go_roundw
       case rel=>exact ⟨i+1,E',left++[c],A7,c7,by go_num,by rw [List.length_append];rfl,by omega,by rw [List.length_append];simp;omega,HFN,qd (by rw [List.length_append];exact HW8.out.mono (by omega)),HFn,qd (fun d hd=>(List.mem_append.1 hd).elim (HO.out d) fun h=>by rw [List.mem_singleton.1 h];exact HCK.out)⟩
       case measure=>simp [intOf];omega
  ·have HV:=qd (HF0.out.symm.trans (need_end HF.out (by have:=HL.out;omega)))
   go_wp2_with fail
   go_ret2
   exact need_some HW.out HV.out
end Go.Proofs.YtcnebdjhhfnmoaaGreatDoor.Ir
namespace Go.Proofs.YtcnebdjhhfnmoaaGreatDoor.Ir
open Go.RowKit Go.WideElems
structure BrM where
 conds:List CondM
 act:Nat
structure BrV where
 m:BrM
 A:Option Addr
 cap:Nat
def BrV.cells (b:BrV):List Value:=[.slice b.A b.m.conds.length b.cap,.int .u32 b.m.act]
structure CaV where
 num:Nat
 brs:List BrV
 A:Option Addr
 cap:Nat
def CaV.cells (c:CaV):List Value:=[.int .u32 c.num,.slice c.A c.brs.length c.cap]
def fullB (l:List BrM):Bool:=match l.getLast? with|some b=>b.conds.isEmpty|none=>false
def addF (l:List BrM)(r:RuleM):List BrM:=
 if fullB l=true then l else match needF [] [] r.conds with|none=>l|some left=>l++[⟨left,r.act⟩]
def Con (w:World)(b:BrV):Prop:=TRd w 89 4 b.m.conds.length b.A (b.m.conds.flatMap CondM.cells)
def OldB (w:World)(B:Nat)(c:CaV):Prop:=TRd w 209 2 c.brs.length c.A (c.brs.flatMap BrV.cells)∧(c.brs.length=0∨∃a,c.A=some a∧a.block<B)
structure PS (w0 wr:World)(cs:List CaV)(num:Nat)(lb:List BrV)(g cap:Nat)(vB:Value)(Bb pb d:Nat):Prop where
 bel:Below w0.heap.size w0 wr
 pb0:w0.heap.size≤pb
 box:Bk wr pb 71 [.slice (some ⟨g,0,none⟩) (cs.length+1) cap,.int .u32 d]
 row:wr.ownsRow w0.heap.size 166 2 (.slice (some ⟨g,0,none⟩) (cs.length+1) cap) (cs.length+1) (cs.flatMap CaV.cells++[.int .u32 num,vB])
 brs:wr.ownsRow Bb 209 2 vB lb.length (lb.flatMap BrV.cells)
 hb:w0.heap.size≤Bb∧Bb≤wr.heap.size
 old:∀c∈cs,OldB wr Bb c
 con:∀c∈cs,∀b∈c.brs,Con wr b
 conl:∀b∈lb,Con wr b
theorem flat2 (l:List CaV):(l.flatMap CaV.cells).length=l.length*2:=by
 induction l with
 | nil=>rfl
 | cons x t ih=>rw [List.flatMap_cons,List.length_append,ih,List.length_cons];show 2+_=_;omega
theorem set_last (l:List CaV)(num:Nat)(v v':Value):(l.flatMap CaV.cells++[.int .u32 num,v]).set (l.length*2+1) v'=l.flatMap CaV.cells++[.int .u32 num,v']:=by
 rw [List.set_append_right _ _ (by rw [flat2];omega),flat2,show l.length*2+1-l.length*2=1 from by omega];rfl
theorem or_set {w:World}{B:Nat}{e:TypeId}{z n g cap j:Nat}{xs:List Value}(h:w.ownsRow B e z (.slice (some ⟨g,0,none⟩) n cap) n xs)(u:Value):(w.setCell ⟨g,j,none⟩ u).ownsRow B e z (.slice (some ⟨g,0,none⟩) n cap) n (xs.set j u):=by
 obtain ⟨h1,⟨h2,h3⟩|⟨g',cap',cur,h2,h3,h4,h5,h6,h7,h8⟩⟩:=h
 ·cases h2
 ·cases h2
  refine ⟨by rw [List.length_set];exact h1,Or.inr ⟨g,cap,cur.setIfInBounds j u,rfl,h3,?_,h5,h6,by rw [Array.size_setIfInBounds];exact h7,?_⟩⟩
  ·simp [World.setCell,Array.getElem?_modify,h4]
  ·rw [Array.toList_setIfInBounds,List.take_set,h8]
theorem or_cell {w:World}{B:Nat}{e:TypeId}{z n g cap:Nat}{xs:List Value}(h:w.ownsRow B e z (.slice (some ⟨g,0,none⟩) n cap) n xs){j:Nat}{u:Value}(hu:xs[j]?=some u):w.cell? ⟨g,j,none⟩=some u∧w.frozen? ⟨g,j,none⟩=false∧g<w.heap.size:=by
 obtain ⟨h1,⟨h2,h3⟩|⟨g',cap',cur,h2,h3,h4,h5,h6,h7,h8⟩⟩:=h
 ·cases h2
 ·cases h2
  refine ⟨?_,by simp [World.frozen?,h4],(Array.getElem?_eq_some_iff.1 h4).1⟩
  have hj:j<n*z:=by rw [←h1];exact (List.getElem?_eq_some_iff.1 hu).1
  rw [←h8,List.getElem?_take_of_lt hj] at hu
  simp [World.cell?,h4]
  rw [←Array.getElem?_toList];exact hu
section
variable {w0 wr w':World} {cs:List CaV} {num:Nat} {lb:List BrV} {g cap:Nat} {vB:Value} {Bb pb d:Nat}
theorem Con.below {b:BrV}(h:Con wr b)(hb:Below wr.heap.size wr w'):Con w' b:=TRd.below h hb
theorem OldB.below {c:CaV}(h:OldB wr Bb c)(hb:Below wr.heap.size wr w'):OldB w' Bb c:=⟨h.1.below hb,h.2⟩
theorem PS.kept (h:PS w0 wr cs num lb g cap vB Bb pb d)(hb:Below wr.heap.size wr w'):PS w0 w' cs num lb g cap vB Bb pb d:=
 ⟨h.bel.trans (hb.mono h.bel.size),h.pb0,h.box.kept hb,own_keepN h.row hb,own_keepN h.brs hb,⟨h.hb.1,Nat.le_trans h.hb.2 hb.size⟩,fun c hc=>(h.old c hc).below hb,fun c hc b hb'=>(h.con c hc b hb').below hb,fun b hb'=>(h.conl b hb').below hb⟩
theorem PS.addBr (h:PS w0 wr cs num lb g cap vB Bb pb d){b:BrV}{v':Value}(hc:Con wr b)(hr:w'.ownsRow Bb 209 2 v' (lb.length+1) (lb.flatMap BrV.cells++b.cells))(hg:wr.grownBy w' vB.ownBlock) :
  PS w0 (w'.setCell ⟨g,cs.length*2+1,none⟩ v') cs num (lb++[b]) g cap v' Bb pb d:=by
 have htb:∀k,vB.ownBlock=some k→TyB wr k 209:=by obtain ⟨_,_,_,_,_,h1,_⟩:=own_typed h.brs;exact h1
 have htg:TyB wr g 166:=by obtain ⟨_,_,_,_,_,h1,_⟩:=own_typed h.row;exact h1 g rfl
 have hge:=own_ge h.brs
 have hrow:=own_appended h.row hg htb (by decide)
 have htg':TyB w' g 166:=by obtain ⟨_,_,_,_,_,h1,_⟩:=own_typed hrow;exact h1 g rfl
 have hs:=only_set w' g (cs.length*2+1) v'
 have hg0:=own_ge h.row g rfl
 have hlt:∀k,k<Bb→k<wr.heap.size→w'.heap[k]?=wr.heap[k]?:=fun k h1 h2=>hg.block k h2 (fun e=>by have:=hge k e.symm;omega)
 have hCon:∀x,Con wr x→Con (w'.setCell ⟨g,cs.length*2+1,none⟩ v') x:=fun x hx=>by
  have h1:=TRd.appended hx hg htb (by decide)
  exact h1.grown hs (h1.off htg' (by decide))
 refine ⟨?_,h.pb0,?_,?_,?_,?_,fun c hc=>?_,fun c hc x hx=>hCon x (h.con c hc x hx),fun x hx=>?_⟩
 ·have h1:Below w0.heap.size wr w':=⟨hg.os,hg.tape,hg.output,hg.size,fun k hk=>hlt k (by have:=h.hb.1;omega) (by have:=h.bel.size;omega)⟩
  exact (h.bel.trans h1).setCell (by exact hg0) _
 ·have h1:=h.box.appended hg htb (by decide)
  exact h1.grown hs (fun e=>(h1.tyb.ne htg' (by decide)) (Option.some.inj e))
 ·have h1:=or_set (j:=cs.length*2+1) hrow v'
  rw [set_last] at h1;exact h1
 ·rw [List.length_append,List.flatMap_append]
  have h2:w'.ownsRow Bb 209 2 v' (lb.length+[b].length) (lb.flatMap BrV.cells++[b].flatMap BrV.cells):=by simpa using hr
  refine own_keep h2 hs fun k hk=>?_
  obtain ⟨_,_,_,_,_,h3,_⟩:=own_typed h2
  exact (h3 k hk).ne htg' (by decide)
 ·refine ⟨h.hb.1,Nat.le_trans h.hb.2 (Nat.le_trans hg.size hs.size)⟩
 ·obtain ⟨o1,o2⟩:=h.old c hc
  have h1:TRd w' 209 2 c.brs.length c.A (c.brs.flatMap BrV.cells):=by
   cases hv:vB.ownBlock with
   | none=>rw [hv] at hg;exact o1.grownN hg
   | some k=>
    rw [hv] at hg
    refine o1.grown hg ?_
    rcases o2 with o2|⟨a,o2,o3⟩
    ·exact Or.inl o2
    ·exact Or.inr fun b hb=>by cases o2.symm.trans hb;have:=hge k hv;omega
  exact ⟨h1.grown hs (h1.off htg' (by decide)),o2⟩
 ·rcases List.mem_append.1 hx with hx|hx
  ·exact hCon x (h.conl x hx)
  ·rw [List.mem_singleton.1 hx];exact hCon b hc
end
end Go.Proofs.YtcnebdjhhfnmoaaGreatDoor.Ir
namespace Go.Proofs.YtcnebdjhhfnmoaaGreatDoor.Ir
open Go.RowKit Go.WideElems
theorem infoBr:(Tryz.prog.info? 209).map (fun i=>(i.zero,i.size,i.bytes))=some (some (.agg #[.slice none 0 0,.int .u32 0]),2,32):=by kernel_rfl
section
variable {w0 wr w':World} {cs:List CaV} {num:Nat} {lb:List BrV} {g cap:Nat} {vB:Value} {Bb pb d:Nat}
theorem PS.cell (h:PS w0 wr cs num lb g cap vB Bb pb d):wr.cell? ⟨g,cs.length*2+1,none⟩=some vB∧wr.frozen? ⟨g,cs.length*2+1,none⟩=false∧g<wr.heap.size:=by
 refine or_cell h.row ?_
 rw [List.getElem?_append_right (by rw [flat2];omega),flat2,show cs.length*2+1-cs.length*2=1 from by omega];rfl
theorem PS.run (h:PS w0 wr cs num lb g cap vB Bb pb d)(b:BrV)(hc:Con wr b)(hn:lb.length≤60000)(ty:TypeId) :
  ∃v' wb,(Builtin.append_ #[164,164] ty #[vB,.slice (some ⟨wr.heap.size,0,none⟩) 1 1]).run Tryz.prog (wr.alloc (.cells #[.slice b.A b.m.conds.length b.cap,.int .u32 b.m.act] 209))=.ok v' wb ∧
   PS w0 (wb.setCell ⟨g,cs.length*2+1,none⟩ v') cs num (lb++[b]) g cap v' Bb pb d∧wb.cell? ⟨g,cs.length*2+1,none⟩=some vB∧wb.frozen? ⟨g,cs.length*2+1,none⟩=false∧g<wb.heap.size:=by
 obtain ⟨i0,hi,hz0,hz1,hz2⟩:=info_parts infoBr
 have hk:=h.kept (oneb wr (.cells #[.slice b.A b.m.conds.length b.cap,.int .u32 b.m.act] 209))
 have hB:Bk (wr.alloc (.cells #[.slice b.A b.m.conds.length b.cap,.int .u32 b.m.act] 209)) wr.heap.size 209 b.cells:=Bk.new wr _ _ rfl
 obtain ⟨v',wb,hr,ho,hg,_,_⟩:=run_append_own_at (P:=Tryz.prog) (wr.alloc (.cells #[.slice b.A b.m.conds.length b.cap,.int .u32 b.m.act] 209)) Bb 164 ty 209 i0 _ 2 32 Tryz.underlying164 hi hz0 hz1 hz2 rfl (by decide) vB lb.length (lb.flatMap BrV.cells) hk.brs ⟨wr.heap.size,0,none⟩ 1 1 b.cells (by rfl) (fun j u hu=>by rw [addr_at,Nat.zero_add];exact hB.cell j hu) (by intro u hu;simp [BrV.cells] at hu;rcases hu with rfl|rfl<;>rfl) (by unfold maxLen;omega) (by omega) hk.hb.2
 have htb:∀k,vB.ownBlock=some k→TyB (wr.alloc (.cells #[.slice b.A b.m.conds.length b.cap,.int .u32 b.m.act] 209)) k 209:=by obtain ⟨_,_,_,_,_,h1,_⟩:=own_typed hk.brs;exact h1
 have hrow:=own_appended hk.row hg htb (by decide)
 have h2:=or_cell (j:=cs.length*2+1) (u:=vB) hrow (by rw [List.getElem?_append_right (by rw [flat2];omega),flat2,show cs.length*2+1-cs.length*2=1 from by omega];rfl)
 exact ⟨v',wb,hr,hk.addBr (hc.below (oneb wr _)) ho hg,h2.1,h2.2.1,h2.2.2⟩
theorem flatBr (l:List BrV):∀(k:Nat) {b:BrV},l[k]?=some b→(l.flatMap BrV.cells)[k*2]?=some (.slice b.A b.m.conds.length b.cap):=by
 induction l with
 | nil=>intro k b hk;simp at hk
 | cons x t ih=>
  intro k b hk
  cases k with
  | zero=>simp at hk;subst hk;rfl
  | succ k=>
   rw [List.flatMap_cons,List.getElem?_append_right (by show 2≤_;omega),show (k+1)*2-x.cells.length=k*2 from by show (k+1)*2-2=_;omega]
   exact ih k (by simpa using hk)
theorem br_cells {w:World}{B n gb c:Nat}{l:List BrV}{b:BrV}(h:w.ownsRow B 209 2 (.slice (some ⟨gb,0,none⟩) n c) n (l.flatMap BrV.cells)){k:Nat}(hk:l[k]?=some b):w.cell? ⟨gb,k*2,none⟩=some (.slice b.A b.m.conds.length b.cap):=by
 exact (or_cell h (flatBr l k hk)).1
end
theorem add_any (w0 wr:World)(cs:List CaV)(num:Nat)(lb:List BrV)(g cap:Nat)(vB:Value)(Bb pb d:Nat)(xn act n:Nat)(cl:List CondM)(A:Option Addr)(cp:Nat)(h:PS w0 wr cs num lb g cap vB Bb pb d)(hok:∀c∈cl,c.ok)(hn:cl.length=n)(hn2:n≤60000)(hlb:lb.length≤60000)(hr:Rd wr 4 n A (cl.flatMap CondM.cells)) :
  Calls Tryz.prog 58 #[.pointer (some ⟨g,cs.length*2,none⟩),.agg #[.int .u32 xn,.int .u32 act,.slice A n cp]] wr fun e w'=>e=.returned (.tuple #[])∧∃lb' vB',lb'.map BrV.m=addF (lb.map BrV.m) ⟨xn,act,cl⟩∧PS w0 w' cs num lb' g cap vB' Bb pb d:=by
 obtain ⟨W,hW⟩:∃W,W=wr.alloc (.cells #[.int .u32 xn,.int .u32 act,.slice A n cp] 86):=⟨_,rfl⟩
 have hbx:Bk W wr.heap.size 86 [.int .u32 xn,.int .u32 act,.slice A n cp]:=by rw [hW];exact Bk.new wr _ _ rfl
 have hb1:Below wr.heap.size wr W:=by rw [hW];exact oneb wr _
 have HP:=qd (h.kept hb1)
 have HR:=qd (hr.below hb1)
 have HOK:=qd hok
 have HN:=qd hn
 have HBx:=qd hbx
 go_enter Tryz.func58,Tryz.ntmps58
 go_upto_region 1 with fail
 rw [←hW]
 generalize wr.heap.size=xb at *
 clear hW hb1 hbx h hr hok hn
 obtain ⟨k0,k1,k2⟩:=HP.out.cell
 obtain ⟨Ab,cb,rfl⟩:=own_slice HP.out.brs
 have y1:=HBx.out.cell 1 rfl
 have y2:=HBx.out.cell 2 rfl
 have yl:=HBx.out.lt
 obtain ⟨bb,hbb⟩:∃bb,bb=fullB (lb.map BrV.m):=⟨_,rfl⟩
 have HBB:=qd hbb
 clear hbb
 go_upto_region 2 with fail
 go_cut [26] from 12 to 26 (fun s26 wx=>s26=.bool bb∧wx=W)
 case first=>
  by_cases hz:lb.length=0
  ·have hz2:¬(0:Int)<(lb.length:Int):=by omega
   have e0:bb=false:=by rw [HBB.out,List.length_eq_zero_iff.1 hz];rfl
   subst e0
   clear hz
   go_wp2_with fail
   go_meet
   case rel=>exact ⟨rfl,rfl⟩
  ·obtain ⟨k,hk⟩:∃k,lb.length=k+1:=⟨lb.length-1,by omega⟩
   obtain ⟨b,hb⟩:∃b,lb[k]?=some b:=⟨_,List.getElem?_eq_getElem (by omega)⟩
   obtain ⟨gb,rfl⟩:∃gb,Ab=some ⟨gb,0,none⟩:=by
    obtain ⟨_,⟨h2,h3⟩|⟨g',_,_,h2,_⟩⟩:=HP.out.brs
    ·exact absurd h3 hz
    ·injection h2 with h2;exact ⟨g',h2⟩
   have x0:=br_cells HP.out.brs hb
   have xl:gb<W.heap.size:=by
    obtain ⟨_,⟨h2,h3⟩|⟨g',_,_,h2,_,h4,_⟩⟩:=HP.out.brs
    ·exact absurd h3 hz
    ·injection h2 with h2;injection h2 with h2;injection h2 with h2;subst h2;exact (Array.getElem?_eq_some_iff.1 h4).1
   have e0:bb=decide (b.m.conds.length=0):=by
    rw [HBB.out];unfold fullB;rw [List.getLast?_eq_getElem?,List.length_map,hk,List.getElem?_map,show k+1-1=k from rfl,hb]
    show b.m.conds.isEmpty=_
    cases b.m.conds<;>simp
   have z1:(0:Int)<(lb.length:Int):=by omega
   have z2:((lb.length:Int)-1).toNat=k:=by omega
   have z3:(0:Int)≤(lb.length:Int)-1:=by omega
   have z4:(lb.length:Int)-1<(lb.length:Int):=by omega
   have z5:IntKind.i64.wrap ((lb.length:Int)-1)=(lb.length:Int)-1:=by rw [IntKind.wrap_i64];omega
   subst e0
   clear hz hk hb
   go_wp2_with fail
   go_meet
   case rel=>exact ⟨by congr 1;rw [Bool.eq_iff_iff];simp,rfl⟩
 case rest=>
  obtain ⟨rfl,rfl⟩:=hcut
  cases hb:bb with
  | true=>
   rw [hb] at HBB
   have HV:=qd (show addF (lb.map BrV.m) ⟨xn,act,cl⟩=lb.map BrV.m by unfold addF;rw [if_pos HBB.out.symm])
   clear hb
   go_wp2_with fail
   (try simp only [Exit.inBlock,Exit.then]);refine bodyPost_ret (results_none rfl _ _ _) rfl ?_
   exact ⟨rfl,lb,_,HV.out.symm,HP.out⟩
  | false=>
   rw [hb] at HBB
   clear hb
   go_wp2_with fail
   refine (needed_any cl n A cp _ HOK.out HN.out hn2 HR.out).mono ?_
   clear k0 k1 k2 y1 y2 yl
   rintro e w5 ⟨hb5,hm⟩
   have HP5:=qd (HP.out.kept hb5)
   have hbx5:=HBx.out.kept hb5
   obtain ⟨k0,k1,k2⟩:=HP5.out.cell
   have y1:=hbx5.cell 1 rfl
   have yl:=hbx5.lt
   clear hb5 hbx5
   cases hF:needF [] [] cl with
   | none=>
    rw [hF] at hm
    have HV:=qd (show addF (lb.map BrV.m) ⟨xn,act,cl⟩=lb.map BrV.m by unfold addF;rw [if_neg (by rw [←HBB.out];decide)];simp only [hF])
    subst hm
    clear hF
    go_wp2_with fail
    go_end0
    exact ⟨rfl,lb,_,HV.out.symm,HP5.out⟩
   | some left=>
    rw [hF] at hm
    have HV:=qd (show addF (lb.map BrV.m) ⟨xn,act,cl⟩=lb.map BrV.m++[⟨left,act⟩] by unfold addF;rw [if_neg (by rw [←HBB.out];decide)];simp only [hF])
    obtain ⟨AL,cL,rfl,hown⟩:=hm
    have HC5:Hid (Con w5 ⟨⟨left,act⟩,AL,cL⟩):=by
     obtain ⟨A1,c1,h1,_,h2,_⟩:=own_typed hown
     cases h1
     exact qd h2
    clear hF hown
    go_wp2_with fail
    refine wp_region_any (by kernel_rfl) ?_
    try (change wpAny _ _ _ _ _ _ _ (World.drew _))
    refine wpAny_take (i:=0) (v:=?_) rfl (by kernel_rfl) (by kernel_rfl) (by kernel_rfl) (fun _ _ _ h=>h) (Or.inl ⟨by rfl,?_⟩) ?_
    rotate_left 1
    ·intro w
     go_simp<;>with_reducible rfl
    refine wpAny_take (i:=1) (v:=?_) rfl (by kernel_rfl) (by kernel_rfl) (by kernel_rfl) (fun _ _ _ h=>h) (Or.inl ⟨by rfl,?_⟩) ?_
    rotate_left 1
    ·intro w
     go_simp<;>with_reducible rfl
    refine wpAny_take (i:=2) (v:=?_) rfl (by kernel_rfl) (by kernel_rfl) (by kernel_rfl) (fun _ _ _ h=>h) (Or.inl ⟨by rfl,?_⟩) ?_
    rotate_left 1
    ·intro w
     go_simp<;>with_reducible rfl
    refine wpAny_take (i:=3) (v:=?_) rfl (by kernel_rfl) (by kernel_rfl) (by kernel_rfl) (fun _ _ _ h=>h) (Or.inl ⟨by rfl,?_⟩) ?_
    rotate_left 1
    ·intro w
     go_simp<;>with_reducible rfl
    refine wpAny_take (i:=5) (v:=?_) rfl (by kernel_rfl) (by kernel_rfl) (by kernel_rfl) (fun _ _ _ h=>h) (Or.inl ⟨by rfl,?_⟩) ?_
    rotate_left 1
    ·intro w
     go_simp<;>with_reducible rfl
    refine wpAny_take (i:=6) (v:=?_) rfl (by kernel_rfl) (by kernel_rfl) (by kernel_rfl) (fun _ _ _ h=>h) (Or.inl ⟨by rfl,?_⟩) ?_
    rotate_left 1
    ·intro w
     go_simp<;>with_reducible rfl
    refine wpAny_ready (rs:=[4,7]) (by kernel_rfl) (by simp) ?_
    refine AllReady.cons rfl (fun K hK=>?_) ?_
    ·skip
     go_simp
     refine hK _ _ ?_
     clear hK K
     refine wpAny_ready (rs:=[7]) (by kernel_rfl) (by simp) ?_
     refine AllReady.cons rfl (fun K hK=>?_) ?_
     ·skip
      go_simp
      refine hK _ _ ?_
      clear hK K
      refine wpAny_take (i:=8) (v:=?_) rfl (by kernel_rfl) (by kernel_rfl) (by kernel_rfl) (fun _ _ _ h=>h) (Or.inl ⟨by rfl,?_⟩) ?_
      rotate_left 1
      ·intro w
       go_simp<;>with_reducible rfl
      refine wpAny_ready (rs:=[9]) (by kernel_rfl) (by simp) ?_
      refine AllReady.cons rfl (fun K hK=>?_) ?_
      ·skip
       go_simp
       refine hK _ _ ?_
       clear hK K
       refine wpAny_ready (rs:=[10]) (by kernel_rfl) (by simp) ?_
       refine AllReady.cons rfl (fun K hK=>?_) ?_
       ·skip
        rw [if_pos (by rfl)]
        obtain ⟨v',wb,hr,hPS,r0,r1,r2⟩:=PS.run (HP5.out.kept (Below.refl _ _).drew) ⟨⟨left,act⟩,AL,cL⟩ (HC5.out.below (Below.refl _ _).drew) hlb 164
        obtain ⟨Av,cv9,hve⟩:=own_slice hPS.brs
        obtain ⟨nl,hnl⟩:∃nl,nl=(lb++[(⟨⟨left,act⟩,AL,cL⟩:BrV)]).length:=⟨_,rfl⟩
        rw [←hnl] at hve
        clear hnl
        subst hve
        have HPS:=qd hPS
        refine op_append (.tmp 38) (.tmp 43) 164 rfl _ _ _ wb rfl rfl hr ?_
        refine hK _ _ ?_
        clear hK K hr hPS k0 k1 k2 y1 yl
        refine wpAny_take (i:=11) (v:=?_) rfl (by kernel_rfl) (by kernel_rfl) (by kernel_rfl) (fun _ _ _ h=>h) (Or.inl ⟨by rfl,?_⟩) ?_
        rotate_left 1
        ·intro w
         go_simp<;>with_reducible rfl
        refine wpAny_take (i:=12) (v:=?_) rfl (by kernel_rfl) (by kernel_rfl) (by kernel_rfl) (fun _ _ _ h=>h) (Or.inl ⟨by rfl,?_⟩) ?_
        rotate_left 1
        ·intro w
         go_simp<;>with_reducible rfl
        refine wpAny_ready (rs:=[13]) (by kernel_rfl) (by simp) ?_
        refine AllReady.cons rfl (fun K hK=>?_) ?_
        ·skip
         go_simp
         refine hK _ _ ?_
         clear hK K
         refine wpAny_done (by kernel_rfl) ?_ _
         go_wp2_with fail
         go_end0
         exact ⟨rfl,_,_,by rw [List.map_append];exact HV.out.symm,HPS.out⟩
        exact AllReady.nil
       exact AllReady.nil
      exact AllReady.nil
     exact AllReady.nil
    refine AllReady.cons rfl (fun K hK=>?_) ?_
    ·skip
     go_simp
     refine hK _ _ ?_
     clear hK K
     refine wpAny_take (i:=8) (v:=?_) rfl (by kernel_rfl) (by kernel_rfl) (by kernel_rfl) (fun _ _ _ h=>h) (Or.inl ⟨by rfl,?_⟩) ?_
     rotate_left 1
     ·intro w
      go_simp<;>with_reducible rfl
     refine wpAny_ready (rs:=[4,9]) (by kernel_rfl) (by simp) ?_
     refine AllReady.cons rfl (fun K hK=>?_) ?_
     ·skip
      go_simp
      refine hK _ _ ?_
      clear hK K
      refine wpAny_ready (rs:=[9]) (by kernel_rfl) (by simp) ?_
      refine AllReady.cons rfl (fun K hK=>?_) ?_
      ·skip
       go_simp
       refine hK _ _ ?_
       clear hK K
       refine wpAny_ready (rs:=[10]) (by kernel_rfl) (by simp) ?_
       refine AllReady.cons rfl (fun K hK=>?_) ?_
       ·skip
        rw [if_pos (by rfl)]
        obtain ⟨v',wb,hr,hPS,r0,r1,r2⟩:=PS.run (HP5.out.kept (Below.refl _ _).drew) ⟨⟨left,act⟩,AL,cL⟩ (HC5.out.below (Below.refl _ _).drew) hlb 164
        obtain ⟨Av,cv9,hve⟩:=own_slice hPS.brs
        obtain ⟨nl,hnl⟩:∃nl,nl=(lb++[(⟨⟨left,act⟩,AL,cL⟩:BrV)]).length:=⟨_,rfl⟩
        rw [←hnl] at hve
        clear hnl
        subst hve
        have HPS:=qd hPS
        refine op_append (.tmp 38) (.tmp 43) 164 rfl _ _ _ wb rfl rfl hr ?_
        refine hK _ _ ?_
        clear hK K hr hPS k0 k1 k2 y1 yl
        refine wpAny_take (i:=11) (v:=?_) rfl (by kernel_rfl) (by kernel_rfl) (by kernel_rfl) (fun _ _ _ h=>h) (Or.inl ⟨by rfl,?_⟩) ?_
        rotate_left 1
        ·intro w
         go_simp<;>with_reducible rfl
        refine wpAny_take (i:=12) (v:=?_) rfl (by kernel_rfl) (by kernel_rfl) (by kernel_rfl) (fun _ _ _ h=>h) (Or.inl ⟨by rfl,?_⟩) ?_
        rotate_left 1
        ·intro w
         go_simp<;>with_reducible rfl
        refine wpAny_ready (rs:=[13]) (by kernel_rfl) (by simp) ?_
        refine AllReady.cons rfl (fun K hK=>?_) ?_
        ·skip
         go_simp
         refine hK _ _ ?_
         clear hK K
         refine wpAny_done (by kernel_rfl) ?_ _
         go_wp2_with fail
         go_end0
         exact ⟨rfl,_,_,by rw [List.map_append];exact HV.out.symm,HPS.out⟩
        exact AllReady.nil
       exact AllReady.nil
      exact AllReady.nil
     refine AllReady.cons rfl (fun K hK=>?_) ?_
     ·skip
      go_simp
      refine hK _ _ ?_
      clear hK K
      refine wpAny_ready (rs:=[4]) (by kernel_rfl) (by simp) ?_
      refine AllReady.cons rfl (fun K hK=>?_) ?_
      ·skip
       go_simp
       refine hK _ _ ?_
       clear hK K
       refine wpAny_ready (rs:=[10]) (by kernel_rfl) (by simp) ?_
       refine AllReady.cons rfl (fun K hK=>?_) ?_
       ·skip
        rw [if_pos (by rfl)]
        obtain ⟨v',wb,hr,hPS,r0,r1,r2⟩:=PS.run (HP5.out.kept (Below.refl _ _).drew) ⟨⟨left,act⟩,AL,cL⟩ (HC5.out.below (Below.refl _ _).drew) hlb 164
        obtain ⟨Av,cv9,hve⟩:=own_slice hPS.brs
        obtain ⟨nl,hnl⟩:∃nl,nl=(lb++[(⟨⟨left,act⟩,AL,cL⟩:BrV)]).length:=⟨_,rfl⟩
        rw [←hnl] at hve
        clear hnl
        subst hve
        have HPS:=qd hPS
        refine op_append (.tmp 38) (.tmp 43) 164 rfl _ _ _ wb rfl rfl hr ?_
        refine hK _ _ ?_
        clear hK K hr hPS k0 k1 k2 y1 yl
        refine wpAny_take (i:=11) (v:=?_) rfl (by kernel_rfl) (by kernel_rfl) (by kernel_rfl) (fun _ _ _ h=>h) (Or.inl ⟨by rfl,?_⟩) ?_
        rotate_left 1
        ·intro w
         go_simp<;>with_reducible rfl
        refine wpAny_take (i:=12) (v:=?_) rfl (by kernel_rfl) (by kernel_rfl) (by kernel_rfl) (fun _ _ _ h=>h) (Or.inl ⟨by rfl,?_⟩) ?_
        rotate_left 1
        ·intro w
         go_simp<;>with_reducible rfl
        refine wpAny_ready (rs:=[13]) (by kernel_rfl) (by simp) ?_
        refine AllReady.cons rfl (fun K hK=>?_) ?_
        ·skip
         go_simp
         refine hK _ _ ?_
         clear hK K
         refine wpAny_done (by kernel_rfl) ?_ _
         go_wp2_with fail
         go_end0
         exact ⟨rfl,_,_,by rw [List.map_append];exact HV.out.symm,HPS.out⟩
        exact AllReady.nil
       exact AllReady.nil
      exact AllReady.nil
     exact AllReady.nil
    exact AllReady.nil
end Go.Proofs.YtcnebdjhhfnmoaaGreatDoor.Ir
