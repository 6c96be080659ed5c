/- Tidy, walked. -/
import Derived.Test.YtcnebdjhhfnmoaaGreatDoorK09
import Derived.Test.YtcnebdjhhfnmoaaGreatDoorK10
import Derived.Deep.Slices
import Derived.ChangeArms
import Derived.ChangeSlices
import Derived.DataReads
import Derived.ProofKit
import Derived.ChangeOld
import Derived.SliceStrings
import Derived.OpenShut
set_option linter.unusedSimpArgs false
set_option maxHeartbeats 32000000
set_option maxRecDepth 100000
namespace Go.Proofs.YtcnebdjhhfnmoaaGreatDoor.Ju
open Go.RowKit Go.Maps Go.WideMaps Go.WideElems Go.ChangeMaps
def lenOf:Value→Nat
 | .slice _ n _=>n
 | _=>0
theorem rd_nil {w:World} {z n:Nat} {A:Option Addr} {xs:List Value} (h:Rd w z n A xs) (hA:A=none):n=0:=by
 rcases h.at_ with e|⟨b,o,e,_⟩
 ·exact e
 ·rw [hA] at e;cases e
theorem below_own {w w':World} {B N e z n:Nat} {v:Value} {xs:List Value} (h:w.ownsRow B e z v n xs) (hg:w.grownBy w' v.ownBlock) (hB:N≤B) (hw:N≤w.heap.size):Below N w w':=
 ⟨hg.os,hg.tape,hg.output,hg.size,fun i hi=>hg.block i (by omega) (fun e=>by have:=(own_ge h i e.symm).1;omega)⟩
theorem tidy_any (l:List PtM) (n:Nat) (A:Option Addr) (cap:Nat) (w:World) (hl:l.length=n) (hn:n≤65536) (hok:∀p∈l,p.ok) (hr:Rd w 7 n A (l.flatMap PtM.cells)) :
  Calls Tryz.prog 66 #[.slice A n cap] w (ClP2 (tidyF l) w):=by
 have HCl:=Lib.hid (clone_any l n A cap w hl hr hn (rd_nil hr))
 have HL:=Lib.hid hl
 have HOK:=Lib.hid hok
 clear hr hl hok
 go_enter Tryz.func66,Tryz.ntmps66
 go_wp2_with fail
 refine HCl.out.mono ?_
 clear HCl
 rintro e w1 ⟨A1,c1,rfl,hr1,hb1⟩
 have HR1:=Lib.hid hr1
 have HB1:=Lib.hid hb1
 clear hr1 hb1
 go_wp2_with fail
 go_loopw [3] (fun v wr=>∃(s:List PtM) (A2:Option Addr) (c2 B:Nat),v=.slice A2 s.length c2∧s.length≤n∧w.heap.size≤B∧Hid (wr.ownsRow B 78 7 (.slice A2 s.length c2) s.length (s.flatMap PtM.cells))∧Hid (Below w.heap.size w wr)∧Hid (∀p∈s,p.ok)∧Hid (tidyF s=tidyF l)) (fun v _=>lenOf v)
 case atStart=>exact ⟨l,A1,c1,w.heap.size,rfl,Nat.le_of_eq HL.out,Nat.le_refl _,HR1,HB1,HOK,Lib.hid rfl⟩
 case round=>
  clear HR1 HB1 HOK
  obtain ⟨s,A2,c2,B,rfl,hsn,hB,HR,HB,HOK,HT⟩:=hrel
  obtain ⟨m,hm⟩:∃m,m=s.length:=⟨_,rfl⟩
  rw [←hm] at HR hsn ⊢
  have HM:=Lib.hid hm
  have HLe:=Lib.hid (lead_any s m B A2 c2 wr hm.symm (by omega) HOK.out HR.out)
  clear hm
  go_wp2_with fail
  refine HLe.out.mono ?_
  clear HLe
  rintro e w2 ⟨rfl,hr2,hg2⟩
  have HB2:=Lib.hid (HB.out.trans (below_own HR.out hg2 hB HB.out.size))
  have HR2:=Lib.hid hr2
  have HOK2:=Lib.hid (leadF_ok HOK.out)
  have HL2:=Lib.hid (show (leadF s).length=m by rw [leadF_len,HM.out])
  have HRd2:Hid (Rd w2 7 m A2 ((leadF s).flatMap PtM.cells)):=by obtain ⟨A9,c9,e,_,h,_⟩:=own_typed hr2;cases e;exact Lib.hid h.rd
  clear hr2 hg2
  have HAl:=Lib.hid (alive_any (leadF s) m A2 c2 w2 HL2.out (by omega) HOK2.out HRd2.out)
  go_wp2_with fail
  refine HAl.out.mono ?_
  clear HAl
  rintro e w3 ⟨A3,c3,rfl,hr3,hb3⟩
  have HB3:=Lib.hid (HB2.out.trans (hb3.mono HB2.out.size))
  have HL3:=Lib.hid (show (aliveF (leadF s)).length≤m by have:=aliveF_len (leadF s);rw [HL2.out] at this;exact this)
  obtain ⟨z3,hz3⟩:∃z,z=(aliveF (leadF s)).length:=⟨_,rfl⟩
  have HZ3:=Lib.hid hz3
  rw [←hz3] at hr3 HL3 ⊢
  have HRd3:Hid (Rd w3 7 z3 A3 ((aliveF (leadF s)).flatMap PtM.cells)∧z3≤c3):=by obtain ⟨A9,c9,e,hc9,h,_⟩:=own_typed hr3;cases e;exact Lib.hid ⟨h.rd,hc9⟩
  have hz9:z3≤m:=HL3.out
  have HLv:=Lib.hid (leaving_any (aliveF (leadF s)) z3 A3 c3 w3 HZ3.out.symm (by omega) HRd3.out.2 HRd3.out.1)
  clear hr3 hb3 hz3 hz9
  go_wp2_with fail
  refine HLv.out.mono ?_
  clear HLv
  rintro e w4 ⟨A4,c4,rfl,hr4,hb4⟩
  have HB4:=Lib.hid (HB3.out.trans (hb4.mono HB3.out.size))
  have HR4:=Lib.hid hr4
  have HW3:=Lib.hid HB3.out.size
  have HOK4:=Lib.hid (show ∀p∈roundF s,p.ok from roundF_ok HOK.out)
  obtain ⟨z4,hz4⟩:∃z,z=(leavF (aliveF (leadF s))).length:=⟨_,rfl⟩
  have hz5:z4≤m:=by rw [hz4,HM.out];exact roundF_len s
  have HZ4:=Lib.hid hz4
  rw [←hz4] at HR4 ⊢
  clear hr4 hb4 hz4
  by_cases he:z4=m
  ·have e1:((z4:Int)==(m:Int))=true:=by rw [he];simp
   have HE:=Lib.hid (show roundF s=tidyF l by rw [←HT.out,tidyF_end (by rw [←HM.out,←he,HZ4.out];rfl)])
   clear he
   go_wp2_with fail
   go_ret
   refine ⟨A4,c4,?_,?_,HB4.out⟩
   ·rw [←HE.out];show _=Ending.returned (.slice A4 (leavF (aliveF (leadF s))).length c4);rw [←HZ4.out];rfl
   ·rw [←HE.out]
    show w4.ownsRow _ _ 7 (.slice A4 (leavF (aliveF (leadF s))).length c4) (leavF (aliveF (leadF s))).length ((leavF (aliveF (leadF s))).flatMap PtM.cells)
    rw [←HZ4.out]
    exact own_base HR4.out HW3.out
  ·have e1:((z4:Int)==(m:Int))=false:=by rw [beq_eq_false_iff_ne];omega
   have HE:=Lib.hid (show tidyF (roundF s)=tidyF l by rw [←HT.out];exact (tidyF_on (fun h=>he (by rw [HZ4.out,HM.out];exact h))).symm)
   go_wp2_with fail
   go_roundw
   case rel=>exact ⟨roundF s,A4,c4,w.heap.size,by rw [HZ4.out];rfl,by show (leavF (aliveF (leadF s))).length≤n;rw [←HZ4.out];omega,Nat.le_refl _,by
    have h:=own_base HR4.out HW3.out
    rw [HZ4.out] at h
    exact Lib.hid h,HB4,HOK4,HE⟩
   case measure=>simp [lenOf];omega
end Go.Proofs.YtcnebdjhhfnmoaaGreatDoor.Ju
namespace Go.Proofs.YtcnebdjhhfnmoaaGreatDoor.Ju
open Go.RowKit Go.Maps Go.WideMaps Go.WideElems Go.ChangeMaps
structure BR (w0 w:World) (p B:Nat) (v:Value) (k:Int) (s:List PtM):Prop where
 box:Bk w p 152 [.int .i64 k,v]
 row:w.ownsRow B 78 7 v s.length (s.flatMap PtM.cells)
 pB:p<B
 le:B≤w.heap.size
 bel:Below w0.heap.size w0 w
 p0:w0.heap.size≤p
section
variable {w0 w w':World} {p B:Nat} {v:Value} {k:Int} {s:List PtM}
theorem BR.below (h:BR w0 w p B v k s) (hb:Below w.heap.size w w'):BR w0 w' p B v k s:=⟨h.box.kept hb,own_keepN h.row hb,h.pB,Nat.le_trans h.le hb.size,h.bel.trans (hb.mono h.bel.size),h.p0⟩
theorem BR.slice (h:BR w0 w p B v k s):∃A cp,v=.slice A s.length cp:=by obtain ⟨A,cp,e,_⟩:=own_typed h.row;exact ⟨A,cp,e⟩
theorem BR.named (h:BR w0 w p B v k s) (k':Int):BR w0 (w.setCell ⟨p,0,none⟩ (.int .i64 k')) p B v k' s:=by
 have hs:=only_set w p 0 (.int .i64 k')
 have:=h.p0
 exact ⟨h.box.set 0 _,own_keep h.row hs (fun b hb e=>by have:=(own_ge h.row b hb).1;have:=h.pB;omega),h.pB,Nat.le_trans h.le hs.size,h.bel.grown hs h.bel.size (fun r e=>by injection e with e;omega),h.p0⟩
theorem BR.run (h:BR w0 w p B v k s) (q:PtM) (hl:s.length≤5000) (ty:TypeId) :
  ∃v' wb,(Builtin.append_ #[67,67] ty #[v,.slice (some ⟨w.heap.size,0,none⟩) 1 1]).run Tryz.prog (w.alloc (.cells #[.int .u8 q.kd,.int .i64 q.tQ,.int .i64 q.el,.int .u16 q.i.c,.int .u8 q.i.t,.int .u8 q.i.f,.int .u32 q.i.k] 78))=.ok v' wb ∧
   BR w0 (wb.setCell ⟨p,1,none⟩ v') p B v' k (s++[q])∧wb.cell? ⟨p,1,none⟩=some v∧wb.frozen? ⟨p,1,none⟩=false∧p<wb.heap.size:=by
 obtain ⟨i0,hi,hz0,hz1,hz2⟩:=info_parts infoPart
 have hb:=oneb w (.cells #[.int .u8 q.kd,.int .i64 q.tQ,.int .i64 q.el,.int .u16 q.i.c,.int .u8 q.i.t,.int .u8 q.i.f,.int .u32 q.i.k] 78)
 have hk:=h.below hb
 have hB:Bk (w.alloc (.cells #[.int .u8 q.kd,.int .i64 q.tQ,.int .i64 q.el,.int .u16 q.i.c,.int .u8 q.i.t,.int .u8 q.i.f,.int .u32 q.i.k] 78)) w.heap.size 78 q.cells:=Bk.new w _ _ rfl
 obtain ⟨v',wb,hr,ho,hg,_,hat⟩:=run_append_own_at (P:=Tryz.prog) (w.alloc (.cells #[.int .u8 q.kd,.int .i64 q.tQ,.int .i64 q.el,.int .u16 q.i.c,.int .u8 q.i.t,.int .u8 q.i.f,.int .u32 q.i.k] 78)) B 67 ty 78 i0 _ 7 32 Tryz.underlying67 hi hz0 hz1 hz2 rfl (by decide) v s.length _ hk.row ⟨w.heap.size,0,none⟩ 1 1 q.cells (by rfl) (fun j u hu=>by rw [addr_at,Nat.zero_add];exact hB.cell j hu) (pt_one q) (by unfold maxLen;omega) (by omega) hk.le
 have hge:=own_ge hk.row
 have hp:=h.pB
 have hp0:=h.p0
 have hbox:Bk wb p 152 [.int .i64 k,v]:=hk.box.grown hg (fun e=>by have:=(hge p e.symm).1;omega)
 have hs:=only_set wb p 1 v'
 refine ⟨v',wb,hr,⟨hbox.set 1 v',?_,hp,Nat.le_trans hk.le (Nat.le_trans hg.size hs.size),?_,hp0⟩,hbox.cell 1 rfl,hbox.fz 1,hbox.lt⟩
 ·have:=own_keep ho hs (fun b hb e=>by have:=(own_ge ho b hb).1;omega)
  simpa using this
 ·exact (hk.bel.grown hg hk.bel.size (fun r e=>by have:=(hge r e).1;omega)).grown hs (Nat.le_trans hk.bel.size hg.size) (fun r e=>by injection e with e;omega)
end
def RetB (b:Bool) (w:World) (e:Ending) (w':World):Prop:=e=.returned (.bool b)∧Below w.heap.size w w'
end Go.Proofs.YtcnebdjhhfnmoaaGreatDoor.Ju
namespace Go.Proofs.YtcnebdjhhfnmoaaGreatDoor.Ju
open Go.ChangeShapes Go.WideShapes Go.ChangeAt Go.RowKit Go.Deep
theorem list_of {α:Type} {Q:Nat→α→Prop}:∀(n:Nat),(∀i,i<n→∃x,Q i x)→∃l:List α,l.length=n∧∀i x,l[i]?=some x→Q i x
 | 0,_=>⟨[],rfl,fun i x h=>by simp at h⟩
 | n+1,h=>by
  obtain ⟨l,hl,hq⟩:=list_of n (fun i hi=>h i (by omega))
  obtain ⟨x,hx⟩:=h n (by omega)
  refine ⟨l++[x],by simp [hl],fun i y hy=>?_⟩
  by_cases hi:i<n
  ·rw [List.getElem?_append_left (by omega)] at hy;exact hq i y hy
  ·have:i=n:=by
    have:=(List.getElem?_eq_some_iff.1 hy).1
    simp at this;omega
   subst this
   rw [List.getElem?_append_right (by omega),hl] at hy
   simp at hy;subst hy;exact hx
section
variable {H:Type} {enc:TypeId×Value→H} {w:World} {base:Nat} {spare:Nat→Bool} {held:Bool} {fuel:Nat} {x:DataW H×List MemPlace} {A:Option Addr} {len cap:Nat}
theorem cell_lt {w:World} {a:Addr} {v:Value} (h:w.cell? a=some v):a.block<w.heap.size∧a.spot=none:=by
 refine ⟨?_,?_⟩
 ·unfold World.cell? at h
  split at h
  ·rename_i h2;exact (Array.getElem?_eq_some_iff.1 h2).1
  ·cases h
 ·unfold World.cell? at h
  split at h
  ·split at h
   ·cases h
   ·rename_i h3;simpa using h3
  ·cases h
theorem add_at (b o j:Nat):(⟨b,o,none⟩:Addr).add j=⟨b,o+j,none⟩:=by unfold Addr.add;split<;>simp_all
theorem rd_of {z n:Nat} {a:Addr} {xs:List Value} (hl:xs.length=n*z) (hz:0<z) (h:∀j u,xs[j]?=some u→w.cell? (a.add j)=some u):Rd w z n (some a) xs:=by
 refine ⟨hl,?_⟩
 rcases Nat.eq_zero_or_pos n with h0|h0
 ·exact .inl h0
 ·right
  have hp:0<xs.length:=by rw [hl];exact Nat.mul_pos h0 hz
  obtain ⟨h1,h2⟩:=cell_lt (h 0 _ (List.getElem?_eq_getElem hp))
  obtain ⟨b,o,spot⟩:=a
  have hs:spot=none:=by simpa [Addr.add] using h2
  subst hs
  exact ⟨b,o,rfl,by simpa [Addr.add] using h1,fun j u hu=>by rw [←add_at];exact h j u hu⟩
theorem one_field {f:Field} {T k:Nat} {cs:List Value} {v:Value} {y:Option (DataW H×List MemPlace)} (h:DataW.trod enc Tryz.prog w base spare held fuel f.type ((cs.drop f.offset).take (Tryz.prog.cellsOf f.type))=y)
  (hT:f.type=T) (hk:f.offset=k) (hc:Tryz.prog.cellsOf T=1) (hv:(cs.drop k).take 1=[v]):DataW.trod enc Tryz.prog w base spare held fuel T [v]=y:=by
 subst hT hk
 rwa [hc,hv] at h
end
section
variable {H:Type} {enc:TypeId×Value→H} {w:World} {base:Nat} {spare:Nat→Bool} {held:Bool} {r:Go.Reach} {b0:Nat} {v:Value} {d:DataW H} {p:List MemPlace}
theorem u32_of {fuel:Nat} {v:Value} (h:∃y,DataW.trod enc Tryz.prog w base spare held fuel 22 [v]=some y):∃n:Nat,v=.int .u32 n∧n<4294967296:=by
 obtain ⟨y,h⟩:=h
 obtain ⟨n,e,_,g⟩:=DataW.trod_int Tryz.underlying22 h
 have b:=bounds_u32 g
 obtain ⟨m,rfl⟩:=Int.eq_ofNat_of_zero_le b.1
 simp only [List.cons.injEq,and_true] at e
 exact ⟨m,e,by omega⟩
end
structure SmP where
 kd:Nat
 tt:Nat
 el:Nat
 how:Nat
 k:Nat
 pad:Nat
def SmP.cells (p:SmP):List Value:=[.int .u8 p.kd,.int .u8 p.tt,.int .u8 p.el,.int .u8 p.how,.int .u8 p.k,.int .u16 p.pad]
def SmP.ok (p:SmP):Prop:=p.kd<256∧p.tt<256∧p.el<256∧p.how<256∧p.k<256∧p.pad<65536
section
variable {H:Type} {enc:TypeId×Value→H} {w:World} {base:Nat} {spare:Nat→Bool} {held:Bool} {fuel:Nat} {x:DataW H×List MemPlace} {A:Option Addr} {len cap:Nat}
end
end Go.Proofs.YtcnebdjhhfnmoaaGreatDoor.Ju
namespace Go.Proofs.YtcnebdjhhfnmoaaGreatDoor.Ju
def zI:Ins:=⟨0,0,0,0⟩
def loadP (k:Nat):PtM:=⟨2,0,0,⟨32,0,0,k⟩⟩
def hereP (n:Nat):PtM:=⟨1,n,0,zI⟩
def retP (n:Nat):PtM:=⟨2,0,0,⟨6,0,0,n⟩⟩
structure Got (l:List PtM) (n i K:Nat):Prop where
 ok:(makeF l).1=0
 has:∀m:Nat,n≤m→m≤6→(lk (m:Int) (makeF l).2.bh).isSome=true
 no:∀m:Nat,m<n→lk (m:Int) (makeF l).2.bh=none
 high:∀j:Nat,j<i→lk ((100+j:Nat):Int) (makeF l).2.bh=none
 len:(makeF l).2.ins.length≤K
theorem step_eq {p:PtM} {c:CdM} (h:(layF p c).2.ins.length≤4096):stepF p (0,c)=layF p c:=by
 have e:stepF p (0,c)=if (layF p c).1≠0 then layF p c else if 4096<(layF p c).2.ins.length then (205,(layF p c).2) else layF p c:=by unfold stepF;rw [if_neg (by simp)]
 rw [e]
 by_cases h1:(layF p c).1≠0
 ·rw [if_pos h1]
 ·rw [if_neg h1,if_neg (by omega)]
theorem step_plain {p:PtM} {l:List PtM} (h:(makeF l).1=0) (hk:p.kd=2) (hc:p.i.c%8≠5) (hl:(makeF l).2.ins.length+1≤4096):makeF (p::l)=(0,⟨p.i::(makeF l).2.ins,(makeF l).2.bh⟩):=by
 rw [makeF_cons,show makeF l=(0,(makeF l).2) from Prod.ext h rfl]
 have e:layF p (makeF l).2=(0,⟨p.i::(makeF l).2.ins,(makeF l).2.bh⟩):=by
  unfold layF
  rw [if_neg (by omega),if_pos hk,if_neg hc]
 rw [step_eq (by rw [e];simpa using hl),e]
theorem step_here {p:PtM} {l:List PtM} (h:(makeF l).1=0) (hk:p.kd=1) (hn:lk p.tQ (makeF l).2.bh=none) (hl:(makeF l).2.ins.length≤4096):makeF (p::l)=(0,⟨(makeF l).2.ins,(p.tQ,(makeF l).2.ins.length)::(makeF l).2.bh⟩):=by
 rw [makeF_cons,show makeF l=(0,(makeF l).2) from Prod.ext h rfl]
 have e:layF p (makeF l).2=(0,⟨(makeF l).2.ins,(p.tQ,(makeF l).2.ins.length)::(makeF l).2.bh⟩):=by
  unfold layF
  rw [if_pos hk,hn]
 rw [step_eq (by rw [e];simpa using hl),e]
theorem Got.plain {l:List PtM} {n i K:Nat} (h:Got l n i K) (hK:K+1≤4096) {p:PtM} (hk:p.kd=2) (hc:p.i.c%8≠5):Got (p::l) n i (K+1):=by
 have hl:=h.len
 have e:=step_plain h.ok hk hc (by omega)
 refine ⟨by rw [e],?_,?_,?_,?_⟩<;>rw [e]<;>simp only
 ·exact h.has
 ·exact h.no
 ·exact h.high
 ·rw [List.length_cons];omega
theorem Got.here {l:List PtM} {n i K:Nat} (h:Got l (n+1) i K) (hn:n≤6) (hK:K≤4096):Got (hereP n::l) n i K:=by
 have hl:=h.len
 have e:=step_here (p:=hereP n) h.ok rfl (h.no n (by omega)) (by omega)
 refine ⟨by rw [e],?_,?_,?_,?_⟩<;>rw [e]<;>simp only
 ·intro m h1 h2
  rw [lk_cons]
  by_cases hm:m=n
  ·subst hm;rw [if_pos (by rfl)];rfl
  ·rw [if_neg (by show ¬(n:Int)=m;omega)];exact h.has m (by omega) h2
 ·intro m h1
  rw [lk_cons,if_neg (by show ¬(n:Int)=m;omega)]
  exact h.no m (by omega)
 ·intro j hj
  rw [lk_cons,if_neg (by show ¬(n:Int)=((100+j:Nat):Int);omega)]
  exact h.high j hj
 ·exact hl
end Go.Proofs.YtcnebdjhhfnmoaaGreatDoor.Ju
namespace Go.Proofs.YtcnebdjhhfnmoaaGreatDoor.Ju
def HasN (n:Int) (l:List PtM):Prop:=∃p∈l,p.kd=1∧p.tQ=n
def WayTo (p:PtM) (n:Int):Prop:=(p.kd=3∧(p.tQ=n∨p.el=n))∨(p.kd=4∧p.tQ=n)
def Fwd:List PtM→Prop
 | []=>True
 | p::t=>Fwd t∧(p.kd=1→¬HasN p.tQ t)∧(∀n,WayTo p n→HasN n t)
theorem has_nil (n:Int):¬HasN n []:=fun ⟨_,h,_⟩=>by cases h
theorem has_cons {n:Int} {p:PtM} {t:List PtM}:HasN n (p::t)↔(p.kd=1∧p.tQ=n)∨HasN n t:=by
 constructor
 ·rintro ⟨q,hq,h1,h2⟩
  rcases List.mem_cons.1 hq with rfl|hq
  ·exact Or.inl ⟨h1,h2⟩
  ·exact Or.inr ⟨q,hq,h1,h2⟩
 ·rintro (⟨h1,h2⟩|⟨q,hq,h1,h2⟩)
  ·exact ⟨p,List.mem_cons_self,h1,h2⟩
  ·exact ⟨q,List.mem_cons_of_mem _ hq,h1,h2⟩
theorem fwd_way:∀{l:List PtM} {p:PtM} {n:Int},Fwd l→p∈l→WayTo p n→HasN n l
 | q::t,p,n,h,hp,hw=>by
  rcases List.mem_cons.1 hp with rfl|hp
  ·exact has_cons.2 (Or.inr (h.2.2 n hw))
  ·exact has_cons.2 (Or.inr (fwd_way h.1 hp hw))
/-! Leading, from the end. -/
def leadR:List PtM→LdM
 | []=>⟨[],[],zPt⟩
 | p::t=>if p.kd=1 then (if (leadR t).nx.kd=4 then ⟨p::(leadR t).l,(p.tQ,(leadR t).nx.tQ)::(leadR t).o,(leadR t).nx⟩ else ⟨p::(leadR t).l,(leadR t).o,(leadR t).nx⟩)
  else ⟨ledP (leadR t).o p::(leadR t).l,(leadR t).o,ledP (leadR t).o p⟩
theorem lead_rec (l:List PtM):∀(d m:Nat),m+d=l.length→(List.range' m d).foldr (fun k s=>leadS s k) ⟨l,[],zPt⟩=⟨l.take m++(leadR (l.drop m)).l,(leadR (l.drop m)).o,(leadR (l.drop m)).nx⟩
 | 0,m,h=>by
  rw [List.drop_of_length_le (by omega),List.take_of_length_le (by omega)]
  simp [leadR]
 | d+1,m,h=>by
  rw [List.range'_succ,List.foldr_cons,lead_rec l d (m+1) (by omega)]
  obtain ⟨p,hp⟩:∃p,l[m]?=some p:=⟨_,List.getElem?_eq_getElem (by omega)⟩
  obtain ⟨h1,h2⟩:=List.getElem?_eq_some_iff.1 hp
  have hd:l.drop m=p::l.drop (m+1):=by rw [List.drop_eq_getElem_cons h1,h2]
  have ht:l.take (m+1)=l.take m++[p]:=by rw [List.take_add_one,hp];rfl
  rw [hd,ht]
  have hat:(l.take m++[p]++(leadR (l.drop (m+1))).l)[m]?=some p:=by
   rw [List.append_assoc,List.getElem?_append_right (by rw [List.length_take];omega),List.length_take,show m-min m l.length=0 from by omega];rfl
  have hset:∀q,(l.take m++[p]++(leadR (l.drop (m+1))).l).set m q=l.take m++q::(leadR (l.drop (m+1))).l:=fun q=>by
   rw [List.append_assoc,List.set_append_right _ _ (by rw [List.length_take];omega),List.length_take,show m-min m l.length=0 from by omega];rfl
  unfold leadS
  simp only [hat]
  rw [show leadR (p::l.drop (m+1))=if p.kd=1 then (if (leadR (l.drop (m+1))).nx.kd=4 then ⟨p::(leadR (l.drop (m+1))).l,(p.tQ,(leadR (l.drop (m+1))).nx.tQ)::(leadR (l.drop (m+1))).o,(leadR (l.drop (m+1))).nx⟩ else ⟨p::(leadR (l.drop (m+1))).l,(leadR (l.drop (m+1))).o,(leadR (l.drop (m+1))).nx⟩)
   else ⟨ledP (leadR (l.drop (m+1))).o p::(leadR (l.drop (m+1))).l,(leadR (l.drop (m+1))).o,ledP (leadR (l.drop (m+1))).o p⟩ from rfl]
  by_cases k1:p.kd=1
  ·rw [if_pos k1,if_pos k1]
   by_cases k4:(leadR (l.drop (m+1))).nx.kd=4
   ·rw [if_pos k4,if_pos k4];simp
   ·rw [if_neg k4,if_neg k4];simp
  ·rw [if_neg k1,if_neg k1,hset]
theorem leadF_rec (l:List PtM):leadF l=(leadR l).l:=by
 unfold leadF
 rw [List.foldl_reverse,List.range_eq_range',lead_rec l l.length 0 (by omega)]
 simp
theorem led_kd (o:List (Int×Int)) (p:PtM):(ledP o p).kd=p.kd:=by
 unfold ledP
 split
 ·rfl
 ·split<;>rfl
theorem cnt_pos {n t:Int}:∀{o:List (Int×Int)},lk n o=some t→0<cnt o
 | [],h=>by simp [lk] at h
 | (m,v)::o,h=>by
  unfold cnt
  split
  ·rename_i h2
   obtain ⟨v2,hv2⟩:=Option.isSome_iff_exists.1 h2
   exact cnt_pos (n:=m) (t:=v2) hv2
  ·omega
def InvO (o:List (Int×Int)):Prop:=∀n t,lk n o=some t→lk t o=none
theorem end_one {o:List (Int×Int)} (h:InvO o) (n:Int):(lk n o=none∧endF o n=n)∨(∃t,lk n o=some t∧endF o n=t):=by
 unfold endF
 cases hl:lk n o with
 | none=>
  refine Or.inl ⟨rfl,?_⟩
  cases cnt o with
  | zero=>rfl
  | succ k=>unfold endN;rw [hl]
 | some t=>
  refine Or.inr ⟨t,rfl,?_⟩
  have:=cnt_pos hl
  obtain ⟨k,hk⟩:∃k,cnt o=k+1:=⟨cnt o-1,by omega⟩
  rw [hk]
  unfold endN
  rw [hl]
  simp only
  cases k with
  | zero=>rfl
  | succ k=>unfold endN;rw [h n t hl]
theorem end_none {o:List (Int×Int)} (h:InvO o) (n:Int):lk (endF o n) o=none:=by
 rcases end_one h n with ⟨h1,h2⟩|⟨t,h1,h2⟩
 ·rw [h2];exact h1
 ·rw [h2];exact h n t h1
theorem way_led {o:List (Int×Int)} {p:PtM} {n:Int} (h:WayTo (ledP o p) n):∃m,WayTo p m∧n=endF o m:=by
 unfold ledP at h
 by_cases h3:p.kd=3
 ·rw [if_pos h3] at h
  rcases h with ⟨_,h|h⟩|⟨h,_⟩
  ·exact ⟨p.tQ,Or.inl ⟨h3,Or.inl rfl⟩,h.symm⟩
  ·exact ⟨p.el,Or.inl ⟨h3,Or.inr rfl⟩,h.symm⟩
  ·simp only at h;omega
 ·rw [if_neg h3] at h
  by_cases h4:p.kd=4
  ·rw [if_pos h4] at h
   rcases h with ⟨h,_⟩|⟨_,h⟩
   ·simp only at h;omega
   ·exact ⟨p.tQ,Or.inr ⟨h4,rfl⟩,h.symm⟩
  ·rw [if_neg h4] at h
   rcases h with ⟨h,_⟩|⟨h,_⟩
   ·exact absurd h h3
   ·exact absurd h h4
structure LdI (z:List PtM) (s:LdM):Prop where
 inv:InvO s.o
 keys:∀n t,lk n s.o=some t→HasN n z∧HasN t z
 has:∀n,HasN n s.l↔HasN n z
 fwd:Fwd s.l
 ways:∀p∈s.l,∀n,WayTo p n→lk n s.o=none
 nx:s.nx.kd=4→HasN s.nx.tQ z∧lk s.nx.tQ s.o=none
theorem lead_inv:∀{z:List PtM},Fwd z→LdI z (leadR z)
 | [],_=>⟨fun n t h=>by simp [leadR,lk] at h,fun n t h=>by simp [leadR,lk] at h,fun n=>Iff.rfl,trivial,fun p hp=>by simp [leadR] at hp,fun h=>by simp [leadR,zPt] at h⟩
 | p::t,h=>by
  obtain ⟨h1,h2,h3⟩:=h
  have ih:=lead_inv h1
  obtain ⟨s,hs⟩:∃s,s=leadR t:=⟨_,rfl⟩
  rw [←hs] at ih
  have hup:∀{n:Int},HasN n t→HasN n (p::t):=fun a=>has_cons.2 (Or.inr a)
  by_cases k1:p.kd=1
  ·have hp:=h2 k1
   have hfw:Fwd (p::s.l):=⟨ih.fwd,fun _ a=>hp ((ih.has _).1 a),fun n a=>by rcases a with ⟨a,_⟩|⟨a,_⟩<;>omega⟩
   have hhas:∀n,HasN n (p::s.l)↔HasN n (p::t):=fun n=>by rw [has_cons,has_cons,ih.has]
   have hnw:∀n,¬WayTo p n:=fun n a=>by rcases a with ⟨a,_⟩|⟨a,_⟩<;>omega
   by_cases k4:s.nx.kd=4
   ·rw [show leadR (p::t)=⟨p::s.l,(p.tQ,s.nx.tQ)::s.o,s.nx⟩ by unfold leadR;rw [if_pos k1,←hs,if_pos k4]]
    obtain ⟨a1,a2⟩:=ih.nx k4
    have ne:∀{n:Int},HasN n t→p.tQ≠n:=fun a e=>hp (by rw [e];exact a)
    have hno:∀{n:Int},HasN n t→lk n ((p.tQ,s.nx.tQ)::s.o)=lk n s.o:=fun a=>by rw [lk_cons,if_neg (ne a)]
    refine ⟨fun n u hu=>?_,fun n u hu=>?_,hhas,hfw,fun q hq n hw=>?_,fun _=>⟨hup a1,by rw [hno a1];exact a2⟩⟩
    ·rw [lk_cons] at hu
     split at hu
     ·cases hu;rw [hno a1];exact a2
     ·rw [hno (ih.keys n u hu).2];exact ih.inv n u hu
    ·rw [lk_cons] at hu
     split at hu
     ·rename_i e;cases hu;exact ⟨has_cons.2 (Or.inl ⟨k1,e⟩),hup a1⟩
     ·exact ⟨hup (ih.keys n u hu).1,hup (ih.keys n u hu).2⟩
    ·rcases List.mem_cons.1 hq with rfl|hq
     ·exact absurd hw (hnw n)
     ·rw [hno ((ih.has n).1 (fwd_way ih.fwd hq hw))];exact ih.ways q hq n hw
   ·rw [show leadR (p::t)=⟨p::s.l,s.o,s.nx⟩ by unfold leadR;rw [if_pos k1,←hs,if_neg k4]]
    refine ⟨ih.inv,fun n u hu=>⟨hup (ih.keys n u hu).1,hup (ih.keys n u hu).2⟩,hhas,hfw,fun q hq n hw=>?_,fun a=>absurd a k4⟩
    rcases List.mem_cons.1 hq with rfl|hq
    ·exact absurd hw (hnw n)
    ·exact ih.ways q hq n hw
  ·rw [show leadR (p::t)=⟨ledP s.o p::s.l,s.o,ledP s.o p⟩ by unfold leadR;rw [if_neg k1,←hs]]
   have hk:(ledP s.o p).kd≠1:=by rw [led_kd];exact k1
   have hw:∀n,WayTo (ledP s.o p) n→HasN n t∧lk n s.o=none:=fun n a=>by
    obtain ⟨m,hm,rfl⟩:=way_led a
    refine ⟨?_,end_none ih.inv m⟩
    rcases end_one ih.inv m with ⟨_,e⟩|⟨u,e1,e2⟩
    ·rw [e];exact h3 m hm
    ·rw [e2];exact (ih.keys m u e1).2
   refine ⟨ih.inv,fun n u hu=>⟨hup (ih.keys n u hu).1,hup (ih.keys n u hu).2⟩,fun n=>?_,⟨ih.fwd,fun a=>absurd a hk,fun n a=>(ih.has n).2 (hw n a).1⟩,fun q hq n a=>?_,fun a=>?_⟩
   ·rw [has_cons,has_cons,ih.has]
    constructor
    ·rintro (⟨a,_⟩|a)
     ·exact absurd a hk
     ·exact Or.inr a
    ·rintro (⟨a,_⟩|a)
     ·exact absurd a k1
     ·exact Or.inr a
   ·rcases List.mem_cons.1 hq with rfl|hq
    ·exact (hw n a).2
    ·exact ih.ways q hq n a
   ·have:=hw (ledP s.o p).tQ (Or.inr ⟨a,rfl⟩)
    exact ⟨hup this.1,this.2⟩
def nextP:List PtM→Option PtM
 | []=>none
 | p::t=>if p.kd=1 then nextP t else some p
def BadH (n:Int):List PtM→Prop
 | []=>False
 | p::t=>(p.kd=1∧p.tQ=n∧∃q,nextP t=some q∧q.kd=4)∨BadH n t
theorem lead_next:∀(z:List PtM),(∀q,nextP (leadR z).l=some q→(leadR z).nx=q)
 | [],q,h=>by simp [leadR,nextP] at h
 | p::t,q,h=>by
  have ih:=lead_next t
  by_cases k1:p.kd=1
  ·by_cases k4:(leadR t).nx.kd=4
   ·have e:leadR (p::t)=⟨p::(leadR t).l,(p.tQ,(leadR t).nx.tQ)::(leadR t).o,(leadR t).nx⟩:=by conv=>lhs;unfold leadR;rw [if_pos k1,if_pos k4]
    rw [e] at h ⊢
    exact ih q (by simpa [nextP,k1] using h)
   ·have e:leadR (p::t)=⟨p::(leadR t).l,(leadR t).o,(leadR t).nx⟩:=by conv=>lhs;unfold leadR;rw [if_pos k1,if_neg k4]
    rw [e] at h ⊢
    exact ih q (by simpa [nextP,k1] using h)
  ·have e:leadR (p::t)=⟨ledP (leadR t).o p::(leadR t).l,(leadR t).o,ledP (leadR t).o p⟩:=by conv=>lhs;unfold leadR;rw [if_neg k1]
   rw [e] at h ⊢
   have hk:(ledP (leadR t).o p).kd≠1:=by rw [led_kd];exact k1
   simpa [nextP,hk] using h
theorem lead_bad:∀(z:List PtM) (n:Int),BadH n (leadR z).l→lk n (leadR z).o≠none
 | [],n,h=>by simp [leadR,BadH] at h
 | p::t,n,h=>by
  have ih:=lead_bad t n
  by_cases k1:p.kd=1
  ·by_cases k4:(leadR t).nx.kd=4
   ·have e:leadR (p::t)=⟨p::(leadR t).l,(p.tQ,(leadR t).nx.tQ)::(leadR t).o,(leadR t).nx⟩:=by conv=>lhs;unfold leadR;rw [if_pos k1,if_pos k4]
    rw [e] at h ⊢
    simp only [lk_cons]
    by_cases en:p.tQ=n
    ·rw [if_pos en];simp
    ·rw [if_neg en]
     rcases h with ⟨_,h,_⟩|h
     ·exact absurd h en
     ·exact ih h
   ·have e:leadR (p::t)=⟨p::(leadR t).l,(leadR t).o,(leadR t).nx⟩:=by conv=>lhs;unfold leadR;rw [if_pos k1,if_neg k4]
    rw [e] at h ⊢
    rcases h with ⟨_,_,q,hq,h4⟩|h
    ·exact absurd (by rw [lead_next t q hq];exact h4) k4
    ·exact ih h
  ·have e:leadR (p::t)=⟨ledP (leadR t).o p::(leadR t).l,(leadR t).o,ledP (leadR t).o p⟩:=by conv=>lhs;unfold leadR;rw [if_neg k1]
   rw [e] at h ⊢
   have hk:(ledP (leadR t).o p).kd≠1:=by rw [led_kd];exact k1
   rcases h with ⟨h,_⟩|h
   ·exact absurd h hk
   ·exact ih h
end Go.Proofs.YtcnebdjhhfnmoaaGreatDoor.Ju
