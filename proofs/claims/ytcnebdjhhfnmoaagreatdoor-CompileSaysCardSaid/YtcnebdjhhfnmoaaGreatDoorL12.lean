/- Ways through a filter, as plain lists: where an instruction goes on; what is stored on each way; what is reached; the longest way; what is left when the rest goes. -/
import Derived.Test.YtcnebdjhhfnmoaaGreatDoorL01
import Derived.Test.YtcnebdjhhfnmoaaGreatDoorL11
set_option maxHeartbeats 32000000
set_option maxRecDepth 100000
namespace Go.Proofs.YtcnebdjhhfnmoaaGreatDoor
def rel (i:Ins):List Nat:=if i.c%8=6 then [] else if i.c%8≠5 then [0] else if i.c=5 then [i.k] else [i.t,i.f]
def ways (i:Ins)(a:Nat):List Nat:=(rel i).map fun d=>a+1+d
def takes (i:Ins):Bool:=i.c==96 || i.c==97
def puts (i:Ins):Bool:=i.c==2 || i.c==3
def takenN (i:Ins):Nat:=if takes i=true then 2 ^ i.k else 0
def putN (i:Ins):Nat:=if puts i=true then 2 ^ i.k else 0
def rangeB (i:Ins):Bool:=
 if i.c=32 then i.k%4==0&&decide (i.k≤60)
 else if i.c=96∨i.c=97∨i.c=2∨i.c=3 then decide (i.k<16)
 else if i.c=52 then i.k != 0
 else if i.c=100∨i.c=116 then decide (i.k<32) else true
def jumpB (i:Ins)(left:Nat):Bool:=i.c%8 != 5 || (rel i).all (fun d=>decide (d<left))
def alone (i:Ins)(left:Nat):Nat:=if knownB i.c=false then 208 else if jumpB i left=false then 207 else if rangeB i=false then 204 else 0
inductive Un (l:List Ins) (b:Nat):Nat→Prop
 | zero:Un l b 0
 | step {j:Nat} {i:Ins} {tQ:Nat}:Un l b j→l[j]?=some i→¬(puts i=true∧i.k=b)→tQ∈ways i j→Un l b tQ
inductive Reach (l:List Ins):Nat→Prop
 | zero:Reach l 0
 | step {j:Nat} {i:Ins} {tQ:Nat}:Reach l j→l[j]?=some i→tQ∈ways i j→Reach l tQ
structure Good (l:List Ins):Prop where
 pos:0<l.length
 many:l.length≤4096
 each:∀(a:Nat) (i:Ins),l[a]?=some i→alone i (l.length-a-1)=0
 ends:∀(i:Ins),l[l.length-1]?=some i→i.c%8=6
 scr:∀(a:Nat) (i:Ins),l[a]?=some i→takes i=true→¬Un l i.k a
inductive Chk (l:List Ins):Nat→Nat→Prop
 | none:l.length=0→Chk l 0 203
 | many:4096<l.length→Chk l 4096 205
 | each (a:Nat) (i:Ins) (e:Nat):0<l.length→l.length≤4096→(∀(j:Nat) (x:Ins),j<a→l[j]?=some x→alone x (l.length-j-1)=0)→l[a]?=some i→alone i (l.length-a-1)=e→e≠0→Chk l a e
 | ends (i:Ins):0<l.length→l.length≤4096→(∀(j:Nat) (x:Ins),l[j]?=some x→alone x (l.length-j-1)=0)→l[l.length-1]?=some i→i.c%8≠6→Chk l (l.length-1) 209
 | scr (a:Nat) (i:Ins):0<l.length→l.length≤4096→(∀(j:Nat) (x:Ins),l[j]?=some x→alone x (l.length-j-1)=0)→(∀(x:Ins),l[l.length-1]?=some x→x.c%8=6) →
   (∀(j:Nat) (x:Ins),j<a→l[j]?=some x→takes x=true→¬Un l x.k j)→l[a]?=some i→takes i=true→Un l i.k a→Chk l a 2
 | good:Good l→Chk l 0 0
theorem Chk.good_iff {l:List Ins}{a e:Nat}(h:Chk l a e):e=0↔Good l:=by
 cases h with
 | none h1=>exact ⟨fun h=>by omega,fun g=>by have:=g.pos;omega⟩
 | many h1=>exact ⟨fun h=>by omega,fun g=>by have:=g.many;omega⟩
 | each _ i _ h0 h1 h2 h3 h4 h5=>exact ⟨fun h=>absurd h h5,fun g=>by rw [←h4];exact g.each _ _ h3⟩
 | ends i h0 h1 h2 h3 h4=>exact ⟨fun h=>by omega,fun g=>absurd (g.ends _ h3) h4⟩
 | scr _ i h0 h1 h2 h3 h4 h5 h6 h7=>exact ⟨fun h=>by omega,fun g=>absurd h7 (g.scr _ _ h5 h6)⟩
 | good g=>exact ⟨fun _=>g,fun _=>rfl⟩
theorem Chk.zero {l:List Ins}{a:Nat}(h:Chk l a 0):a=0:=by
 cases h with
 | each _ i _ h0 h1 h2 h3 h4 h5=>exact absurd rfl h5
 | good g=>rfl
theorem alone_lt (i:Ins)(n:Nat):alone i n<300:=by
 unfold alone
 split
 ·omega
 ·split
  ·omega
  ·split<;>omega
theorem alone_zero {i:Ins}{n:Nat}:alone i n=0↔knownB i.c=true∧jumpB i n=true∧rangeB i=true:=by
 unfold alone
 by_cases h1:knownB i.c=false
 ·simp [h1]
 ·by_cases h2:jumpB i n=false
  ·simp [h1,h2]
  ·by_cases h3:rangeB i=false
   ·simp [h1,h2,h3]
   ·simp only [Bool.not_eq_false] at h1 h2 h3
    simp [h1,h2,h3]
theorem Chk.lt {l:List Ins}{a e:Nat}(h:Chk l a e):a≤4096∧e<300:=by
 cases h with
 | none h1=>omega
 | many h1=>omega
 | each _ i _ h0 h1 h2 h3 h4 h5=>
  have:=(List.getElem?_eq_some_iff.1 h3).1
  have:=alone_lt i (l.length-a-1)
  omega
 | ends i h0 h1 h2 h3 h4=>omega
 | scr _ i h0 h1 h2 h3 h4 h5 h6 h7=>
  have:=(List.getElem?_eq_some_iff.1 h5).1
  omega
 | good g=>omega
theorem ways_gt {i:Ins}{a tQ:Nat}(h:tQ∈ways i a):a<tQ:=by
 obtain ⟨d,_,rfl⟩:=List.mem_map.1 h
 omega
theorem jump_in {i:Ins}{n d:Nat}(hj:jumpB i n=true)(h5:i.c%8=5)(hd:d∈rel i):d<n:=by
 unfold jumpB at hj
 simp only [h5,bne_self_eq_false,Bool.false_or,List.all_eq_true,decide_eq_true_eq] at hj
 exact hj d hd
def Inr (l:List Ins):Prop:=∀(a:Nat) (i:Ins),l[a]?=some i→∀tQ∈ways i a,tQ<l.length
theorem inr_of {l:List Ins}(h1:∀(j:Nat)(x:Ins),l[j]?=some x→alone x (l.length-j-1)=0)(h2:∀(x:Ins),l[l.length-1]?=some x→x.c%8=6):Inr l:=by
 intro a i hi tQ hto
 have ha:=(List.getElem?_eq_some_iff.1 hi).1
 obtain ⟨d,hd,rfl⟩:=List.mem_map.1 hto
 by_cases h5:i.c%8=5
 ·have:=jump_in (alone_zero.1 (h1 a i hi)).2.1 h5 hd
  omega
 ·by_cases h6:i.c%8=6
  ·simp [rel,h6] at hd
  ·have h0:d=0:=by simpa [rel,h5,h6] using hd
   have:a≠l.length-1:=fun e=>h6 (h2 i (e▸hi))
   omega
theorem Good.inr {l:List Ins}(g:Good l):Inr l:=inr_of g.each g.ends
/-! What is stored. -/
theorem getD_set {α:Type}(l:List α)(k j:Nat)(v d:α):(l.set k v).getD j d=if j=k∧k<l.length then v else l.getD j d:=by
 rw [List.getD_eq_getElem?_getD,List.getD_eq_getElem?_getD,List.getElem?_set]
 by_cases h:k=j
 ·subst h
  by_cases h2:k<l.length
  ·simp [h2]
  ·simp [h2]
 ·rw [if_neg h,if_neg (fun e=>h e.1.symm)]
def upd (st:List Nat)(v:Nat)(tos:List Nat):List Nat:=tos.foldl (fun s tQ=>s.set tQ (s.getD tQ 0&&&v)) st
theorem upd_len (st:List Nat)(v:Nat)(tos:List Nat):(upd st v tos).length=st.length:=by
 unfold upd
 induction tos generalizing st with
 | nil=>rfl
 | cons x t ih=>rw [List.foldl_cons,ih,List.length_set]
theorem upd_get (st:List Nat)(v:Nat)(tos:List Nat)(j:Nat):(upd st v tos).getD j 0=if j∈tos then st.getD j 0&&&v else st.getD j 0:=by
 induction tos generalizing st with
 | nil=>simp [upd]
 | cons x t ih=>
  have e:upd st v (x::t)=upd (st.set x (st.getD x 0&&&v)) v t:=rfl
  have e2:(st.set x (st.getD x 0&&&v)).getD j 0=if j=x then st.getD j 0&&&v else st.getD j 0:=by
   rw [getD_set]
   by_cases hjx:j=x
   ·subst hjx
    by_cases hl:j<st.length
    ·simp [hl]
    ·have:st.getD j 0=0:=by rw [List.getD_eq_getElem?_getD,List.getElem?_eq_none (by omega)];rfl
     simp [hl]
   ·simp [hjx]
  rw [e,ih,e2]
  by_cases h1:j∈t<;>by_cases h2:j=x<;>simp [h1,h2,Nat.and_assoc]
def stf (l:List Ins):Nat→List Nat
 | 0=>(List.replicate l.length 65535).set 0 0
 | k+1=>match l[k]? with
  | none=>stf l k
  | some i=>upd (stf l k) ((stf l k).getD k 0|||putN i) (ways i k)
theorem stf_len (l:List Ins)(k:Nat):(stf l k).length=l.length:=by
 induction k with
 | zero=>simp [stf]
 | succ k ih=>
  unfold stf
  split
  ·exact ih
  ·rw [upd_len];exact ih
theorem stf_step {l:List Ins}{k:Nat}{i:Ins}(h:l[k]?=some i):stf l (k+1)=upd (stf l k) ((stf l k).getD k 0|||putN i) (ways i k):=by
 rw [stf,h]
def UnB (l:List Ins)(b k j:Nat):Prop:=j=0∨∃m i,m<k∧Un l b m∧l[m]?=some i∧¬(puts i=true∧i.k=b)∧j∈ways i m
theorem unB_iff {l:List Ins}{b k:Nat}:UnB l b k k↔Un l b k:=by
 constructor
 ·rintro (rfl|⟨m,i,_,h1,h2,h3,h4⟩)
  ·exact .zero
  ·exact .step h1 h2 h3 h4
 ·intro h
  cases h with
  | zero=>exact .inl rfl
  | step h1 h2 h3 h4=>exact .inr ⟨_,_,ways_gt h4,h1,h2,h3,h4⟩
theorem put_bit (i:Ins)(b:Nat):(putN i).testBit b=true↔(puts i=true∧i.k=b):=by
 unfold putN
 by_cases h:puts i=true
 ·rw [if_pos h,Nat.testBit_two_pow];simp [h]
 ·rw [if_neg h];simp [h]
theorem stf_spec (l:List Ins)(b:Nat)(hb:b<16):∀(k:Nat),k≤l.length→∀j,j<l.length→(((stf l k).getD j 0).testBit b=true↔¬UnB l b k j)
 | 0,_,j,hj=>by
  have e:(stf l 0).getD j 0=if j=0 then 0 else 65535:=by
   rw [stf,getD_set]
   by_cases h:j=0
   ·subst h;simp [hj]
   ·simp [h,List.getD_eq_getElem?_getD,hj]
  rw [e]
  by_cases h:j=0
  ·simp [h,UnB]
  ·have:Nat.testBit 65535 b=true:=by
    rw [show 65535=2 ^ 16-1 from rfl,Nat.testBit_two_pow_sub_one];simpa using hb
   simp [h,this,UnB]
 | k+1,hk,j,hj=>by
  obtain ⟨i,hi⟩:∃i,l[k]?=some i:=⟨_,List.getElem?_eq_getElem (by omega)⟩
  have ih:=stf_spec l b hb k (by omega)
  rw [stf_step hi,upd_get]
  have hu:UnB l b (k+1) j↔UnB l b k j∨(Un l b k∧¬(puts i=true∧i.k=b)∧j∈ways i k):=by
   constructor
   ·rintro (h|⟨m,x,h0,h1,h2,h3,h4⟩)
    ·exact .inl (.inl h)
    ·rcases (by omega:m<k∨m=k) with h5|rfl
     ·exact .inl (.inr ⟨m,x,h5,h1,h2,h3,h4⟩)
     ·rw [hi] at h2
      cases h2
      exact .inr ⟨h1,h3,h4⟩
   ·rintro ((h|⟨m,x,h0,h1,h2,h3,h4⟩)|⟨h1,h3,h4⟩)
    ·exact .inl h
    ·exact .inr ⟨m,x,by omega,h1,h2,h3,h4⟩
    ·exact .inr ⟨k,i,by omega,h1,hi,h3,h4⟩
  rw [hu]
  by_cases hw:j∈ways i k
  ·rw [if_pos hw,Nat.testBit_and,Nat.testBit_or,Bool.and_eq_true,Bool.or_eq_true,ih j hj,ih k (by omega),put_bit,unB_iff]
   constructor
   ·rintro ⟨h1,h2⟩ (h3|⟨h3,h4,_⟩)
    ·exact h1 h3
    ·rcases h2 with h2|h2
     ·exact h2 h3
     ·exact h4 h2
   ·intro h
    refine ⟨fun h1=>h (.inl h1),?_⟩
    by_cases h1:Un l b k
    ·right
     by_cases h2:puts i=true∧i.k=b
     ·exact h2
     ·exact absurd (.inr ⟨h1,h2,hw⟩) h
    ·exact .inl h1
  ·rw [if_neg hw,ih j hj]
   constructor
   ·rintro h1 (h2|⟨_,_,h2⟩)
    ·exact h1 h2
    ·exact hw h2
   ·exact fun h h1=>h (.inl h1)
theorem stf_lt (l:List Ins)(hok:∀i∈l,rangeB i=true):∀k j,(stf l k).getD j 0<65536
 | 0,j=>by
  rw [stf,getD_set]
  split
  ·omega
  ·rw [List.getD_eq_getElem?_getD,List.getElem?_replicate]
   split<;>simp
 | k+1,j=>by
  unfold stf
  split
  ·exact stf_lt l hok k j
  ·rename_i i hi
   rw [upd_get]
   split
   ·exact Nat.lt_of_le_of_lt Nat.and_le_left (stf_lt l hok k j)
   ·exact stf_lt l hok k j
theorem scratch_lt {i:Ins}(h:rangeB i=true)(h2:i.c=96∨i.c=97∨i.c=2∨i.c=3):i.k<16:=by
 unfold rangeB at h
 rw [if_neg (by omega),if_pos h2] at h
 simpa using h
theorem takes_lt {i:Ins}(h:rangeB i=true)(h2:takes i=true):i.k<16:=by
 simp only [takes,Bool.or_eq_true,beq_iff_eq] at h2
 exact scratch_lt h (by omega)
theorem puts_lt {i:Ins}(h:rangeB i=true)(h2:puts i=true):i.k<16:=by
 simp only [puts,Bool.or_eq_true,beq_iff_eq] at h2
 exact scratch_lt h (by omega)
theorem putN_lt {i:Ins}(h:rangeB i=true):putN i<65536:=by
 unfold putN
 split
 ·rename_i h2
  have:=Nat.pow_lt_pow_right (a:=2) (by omega) (puts_lt h h2)
  omega
 ·omega
theorem takenN_lt {i:Ins}(h:rangeB i=true):takenN i<65536:=by
 unfold takenN
 split
 ·rename_i h2
  have:=Nat.pow_lt_pow_right (a:=2) (by omega) (takes_lt h h2)
  omega
 ·omega
theorem stf_bad {l:List Ins}{k:Nat}{i:Ins}(hi:l[k]?=some i)(hr:rangeB i=true):(∀b,(takenN i).testBit b=true→((stf l k).getD k 0).testBit b=true)↔(takes i=true→¬Un l i.k k):=by
 have hk:=(List.getElem?_eq_some_iff.1 hi).1
 unfold takenN
 by_cases ht:takes i=true
 ·have h16:=takes_lt hr ht
  rw [if_pos ht]
  constructor
  ·intro h _ hu
   have:=h i.k (by rw [Nat.testBit_two_pow];simp)
   rw [stf_spec l i.k h16 k (by omega) k hk,unB_iff] at this
   exact this hu
  ·intro h b hb
   rw [Nat.testBit_two_pow] at hb
   obtain rfl:i.k=b:=by simpa using hb
   rw [stf_spec l i.k h16 k (by omega) k hk,unB_iff]
   exact h ht
 ·simp [ht]
/-! What is reached. -/
def setAllW (rs:List Bool)(tos:List Nat):List Bool:=tos.foldl (fun s tQ=>s.set tQ true) rs
theorem setAll_len (rs:List Bool)(tos:List Nat):(setAllW rs tos).length=rs.length:=by
 unfold setAllW
 induction tos generalizing rs with
 | nil=>rfl
 | cons x t ih=>rw [List.foldl_cons,ih,List.length_set]
theorem setAll_get (rs:List Bool)(tos:List Nat)(j:Nat)(hj:j<rs.length):(setAllW rs tos).getD j false=true↔rs.getD j false=true∨j∈tos:=by
 induction tos generalizing rs with
 | nil=>simp [setAllW]
 | cons x t ih=>
  have e:setAllW rs (x::t)=setAllW (rs.set x true) t:=rfl
  rw [e,ih _ (by simpa using hj),getD_set]
  by_cases h:j=x
  ·subst h;simp [hj]
  ·simp [h]
def rcf (l:List Ins):Nat→List Bool
 | 0=>(List.replicate l.length false).set 0 true
 | k+1=>match l[k]? with
  | none=>rcf l k
  | some i=>if (rcf l k).getD k false=true then setAllW (rcf l k) (ways i k) else rcf l k
theorem rcf_len (l:List Ins)(k:Nat):(rcf l k).length=l.length:=by
 induction k with
 | zero=>simp [rcf]
 | succ k ih=>
  unfold rcf
  split
  ·exact ih
  ·split
   ·rw [setAll_len];exact ih
   ·exact ih
theorem rcf_step {l:List Ins}{k:Nat}{i:Ins}(h:l[k]?=some i):rcf l (k+1)=if (rcf l k).getD k false=true then setAllW (rcf l k) (ways i k) else rcf l k:=by
 rw [rcf,h]
def ReB (l:List Ins)(k j:Nat):Prop:=j=0∨∃m i,m<k∧Reach l m∧l[m]?=some i∧j∈ways i m
theorem reB_iff {l:List Ins}{k j:Nat}(h:j≤k):ReB l k j↔Reach l j:=by
 constructor
 ·rintro (rfl|⟨m,i,_,h1,h2,h4⟩)
  ·exact .zero
  ·exact .step h1 h2 h4
 ·intro h0
  cases h0 with
  | zero=>exact .inl rfl
  | step h1 h2 h4=>exact .inr ⟨_,_,Nat.lt_of_lt_of_le (ways_gt h4) h,h1,h2,h4⟩
theorem rcf_spec (l:List Ins):∀(k:Nat),k≤l.length→∀j,j<l.length→((rcf l k).getD j false=true↔ReB l k j)
 | 0,_,j,hj=>by
  rw [rcf,getD_set]
  by_cases h:j=0
  ·subst h;simp [hj,ReB]
  ·simp [h,ReB,List.getD_eq_getElem?_getD,hj]
 | k+1,hk,j,hj=>by
  obtain ⟨i,hi⟩:∃i,l[k]?=some i:=⟨_,List.getElem?_eq_getElem (by omega)⟩
  have ih:=rcf_spec l k (by omega)
  rw [rcf_step hi]
  have hu:ReB l (k+1) j↔ReB l k j∨(Reach l k∧j∈ways i k):=by
   constructor
   ·rintro (h|⟨m,x,h0,h1,h2,h4⟩)
    ·exact .inl (.inl h)
    ·rcases (by omega:m<k∨m=k) with h5|rfl
     ·exact .inl (.inr ⟨m,x,h5,h1,h2,h4⟩)
     ·rw [hi] at h2
      cases h2
      exact .inr ⟨h1,h4⟩
   ·rintro ((h|⟨m,x,h0,h1,h2,h4⟩)|⟨h1,h4⟩)
    ·exact .inl h
    ·exact .inr ⟨m,x,by omega,h1,h2,h4⟩
    ·exact .inr ⟨k,i,by omega,h1,hi,h4⟩
  rw [hu]
  have hkk:=ih k (by omega)
  rw [reB_iff (Nat.le_refl k)] at hkk
  by_cases hr:(rcf l k).getD k false=true
  ·rw [if_pos hr,setAll_get _ _ _ (by rw [rcf_len];exact hj),ih j hj]
   have:=hkk.1 hr
   simp [this]
  ·rw [if_neg hr,ih j hj]
   have:¬Reach l k:=fun h=>hr (hkk.2 h)
   simp [this]
def rc (l:List Ins):List Bool:=rcf l l.length
theorem rc_iff {l:List Ins}{j:Nat}(h:j<l.length):(rc l).getD j false=true↔Reach l j:=by
 unfold rc
 rw [rcf_spec l _ (Nat.le_refl _) j h,reB_iff (by omega)]
/-! The longest way. -/
end Go.Proofs.YtcnebdjhhfnmoaaGreatDoor
namespace Go.Proofs.YtcnebdjhhfnmoaaGreatDoor
def cnt (R:Nat→Bool):Nat→Nat
 | 0=>0
 | k+1=>if R k=true then cnt R k+1 else cnt R k
section
variable {R:Nat→Bool} {α:Type} {g:Nat→α}
theorem cnt_yes {k:Nat}(h:R k=true):cnt R (k+1)=cnt R k+1:=by rw [cnt,if_pos h]
theorem cnt_no {k:Nat}(h:R k=false):cnt R (k+1)=cnt R k:=by rw [cnt,if_neg (by simp [h])]
theorem cnt_step (k:Nat):cnt R k≤cnt R (k+1)∧cnt R (k+1)≤cnt R k+1:=by
 cases h:R k with
 | true=>rw [cnt_yes h];omega
 | false=>rw [cnt_no h];omega
theorem cnt_far (j d:Nat):cnt R (j+d)≤cnt R j+d:=by
 induction d with
 | zero=>exact Nat.le_refl _
 | succ d ih=>have:=(cnt_step (R:=R) (j+d)).2;rw [←Nat.add_assoc];omega
theorem cnt_le (k:Nat):cnt R k≤k:=by have:=cnt_far (R:=R) 0 k;simpa [cnt] using this
end
def rb (l:List Ins)(a:Nat):Bool:=(rc l).getD a false
theorem g0 {l:List Ins}(g:Good l):rb l 0=true:=by
 have:=g.pos
 exact (rc_iff (by omega)).2 .zero
/-! More behind. -/
def ret (k:Nat):Ins:=⟨6,0,0,k⟩
/-! More ahead. -/
end Go.Proofs.YtcnebdjhhfnmoaaGreatDoor
namespace Go.Proofs.YtcnebdjhhfnmoaaGreatDoor
structure Mc where
 a:Nat
 x:Nat
 m:List Nat
 nx:Nat
structure Mc.ok (s:Mc):Prop where
 a:s.a<4294967296
 x:s.x<4294967296
 m:s.m.length=16
 ms:∀j,s.m.getD j 0<4294967296
def opd (i:Ins)(s:Mc):Nat:=if i.c / 8%2=1 then s.x else i.k
def ldN (W:Nat→Nat)(i:Ins)(m:List Nat):Nat:=if i.c / 32=1 then W i.k else if i.c / 32=3 then m.getD i.k 0 else if i.c / 32=4 then 64 else i.k
def reckN (op a n:Nat):Nat:=
 if op=0 then (a+n)%4294967296 else if op=1 then (a+4294967296-n)%4294967296 else if op=2 then a*n%4294967296 else if op=3 then a / n
 else if op=4 then a|||n else if op=5 then a&&&n else if op=6 then a*2 ^ (n%32)%4294967296 else if op=7 then a / 2 ^ (n%32)
 else if op=8 then (4294967296-a)%4294967296 else a^^^n
def holdsN (op a n:Nat):Bool:=if op=1 then decide (a=n) else if op=2 then decide (n<a) else if op=3 then decide (n≤a) else a&&&n != 0
def farN (i:Ins)(s:Mc):Nat:=if i.c / 16=0 then i.k else if holdsN (i.c / 16) s.a (opd i s)=true then i.t else i.f
def stepN (W:Nat→Nat)(i:Ins)(s:Mc):Mc×Option Nat:=
 if i.c%8=0 then ({ s with a:=ldN W i s.m,nx:=s.nx+1 },none)
 else if i.c%8=1 then ({ s with x:=ldN W i s.m,nx:=s.nx+1 },none)
 else if i.c%8=2 then ({ s with m:=s.m.set i.k s.a,nx:=s.nx+1 },none)
 else if i.c%8=3 then ({ s with m:=s.m.set i.k s.x,nx:=s.nx+1 },none)
 else if i.c%8=4 then
  if i.c / 16=3∧opd i s=0 then ({ s with nx:=s.nx+1 },some 0) else ({ s with a:=reckN (i.c / 16) s.a (opd i s),nx:=s.nx+1 },none)
 else if i.c%8=5 then ({ s with nx:=s.nx+1+farN i s },none)
 else if i.c%8=6 then ({ s with nx:=s.nx+1 },some (if i.c=22 then s.a else i.k))
 else if i.c=7 then ({ s with x:=s.a,nx:=s.nx+1 },none) else ({ s with a:=s.x,nx:=s.nx+1 },none)
def exec (W:Nat→Nat)(l:List Ins):Nat→Mc→List (Nat×Nat×Nat)×Nat
 | 0,_=>([],2147483648)
 | n+1,s=>match l[s.nx]? with
  | none=>([],2147483648)
  | some i=>match stepN W i s with
   | (s',some r)=>([(s.nx,s'.a,s'.x)],r)
   | (s',none)=>((s.nx,s'.a,s'.x)::(exec W l n s').1,(exec W l n s').2)
def mc0:Mc:=⟨0,0,List.replicate 16 0,0⟩
def runN (W:Nat→Nat)(l:List Ins):List (Nat×Nat×Nat)×Nat:=exec W l l.length mc0
theorem step_nx (W:Nat→Nat)(i:Ins)(s:Mc):s.nx<(stepN W i s).1.nx:=by
 unfold stepN
 repeat' split
 all_goals (dsimp only;omega)
theorem exec_fuel (W:Nat→Nat)(l:List Ins):∀(n m:Nat) (s:Mc),l.length-s.nx≤n→l.length-s.nx≤m→exec W l n s=exec W l m s
 | 0,0,s,_,_=>rfl
 | 0,m+1,s,h,_=>by
  have:l[s.nx]?=none:=List.getElem?_eq_none (by omega)
  simp [exec,this]
 | n+1,0,s,_,h=>by
  have:l[s.nx]?=none:=List.getElem?_eq_none (by omega)
  simp [exec,this]
 | n+1,m+1,s,h1,h2=>by
  have hn:=step_nx W
  simp only [exec]
  cases hi:l[s.nx]? with
  | none=>rfl
  | some i=>
   have:=hn i s
   dsimp only
   rcases hs:stepN W i s with ⟨s',_|r⟩
   ·rw [hs] at this
    dsimp only at this ⊢
    rw [exec_fuel W l n m s' (by omega) (by omega)]
   ·rfl
def rest (W:Nat→Nat)(l:List Ins)(s:Mc):List (Nat×Nat×Nat)×Nat:=exec W l (l.length-s.nx) s
theorem run_rest (W:Nat→Nat)(l:List Ins):runN W l=rest W l mc0:=rfl
theorem rest_end {W:Nat→Nat}{l:List Ins}{s:Mc}(h:l.length≤s.nx):rest W l s=([],2147483648):=by
 unfold rest;rw [show l.length-s.nx=0 by omega];rfl
theorem rest_some {W:Nat→Nat}{l:List Ins}{s s':Mc}{i:Ins}{r:Nat}(hi:l[s.nx]?=some i)(hs:stepN W i s=(s',some r)):rest W l s=([(s.nx,s'.a,s'.x)],r):=by
 have hl:=(List.getElem?_eq_some_iff.1 hi).1
 unfold rest
 obtain ⟨n,hn⟩:∃n,l.length-s.nx=n+1:=⟨l.length-s.nx-1,by omega⟩
 rw [hn]
 simp [exec,hi,hs]
theorem rest_none {W:Nat→Nat}{l:List Ins}{s s':Mc}{i:Ins}(hi:l[s.nx]?=some i)(hs:stepN W i s=(s',none)):rest W l s=((s.nx,s'.a,s'.x)::(rest W l s').1,(rest W l s').2):=by
 have hl:=(List.getElem?_eq_some_iff.1 hi).1
 have hx:=step_nx W i s
 rw [hs] at hx
 dsimp only at hx
 unfold rest
 obtain ⟨n,hn⟩:∃n,l.length-s.nx=n+1:=⟨l.length-s.nx-1,by omega⟩
 rw [hn]
 simp only [exec,hi,hs]
 rw [exec_fuel W l n (l.length-s'.nx) s' (by omega) (by omega)]
def Live (W:Nat→Nat)(l:List Ins)(ts:List (Nat×Nat×Nat))(s:Mc):Prop:=runN W l=(ts++(rest W l s).1,(rest W l s).2)
theorem live_0 (W:Nat→Nat)(l:List Ins):Live W l [] mc0:=by unfold Live;rw [run_rest];rfl
theorem live_none {W:Nat→Nat}{l:List Ins}{ts:List (Nat×Nat×Nat)}{s s':Mc}{i:Ins}(h:Live W l ts s)(hi:l[s.nx]?=some i)(hs:stepN W i s=(s',none)):Live W l (ts++[(s.nx,s'.a,s'.x)]) s':=by
 unfold Live at h ⊢;rw [h,rest_none hi hs];simp
theorem live_some {W:Nat→Nat}{l:List Ins}{ts:List (Nat×Nat×Nat)}{s s':Mc}{i:Ins}{r:Nat}(h:Live W l ts s)(hi:l[s.nx]?=some i)(hs:stepN W i s=(s',some r)):runN W l=(ts++[(s.nx,s'.a,s'.x)],r):=by
 unfold Live at h;rw [h,rest_some hi hs]
theorem live_out {W:Nat→Nat}{l:List Ins}{ts:List (Nat×Nat×Nat)}{s:Mc}(h:Live W l ts s)(hl:l.length≤s.nx):runN W l=(ts,2147483648):=by
 unfold Live at h;rw [h,rest_end hl];simp
theorem rest_len (W:Nat→Nat)(l:List Ins):∀(n:Nat) (s:Mc),(exec W l n s).1.length≤n
 | 0,s=>by simp [exec]
 | n+1,s=>by
  simp only [exec]
  cases l[s.nx]? with
  | none=>simp
  | some i=>
   dsimp only
   rcases hs:stepN W i s with ⟨s',_|r⟩
   ·have:=rest_len W l n s'
    simp;omega
   ·simp
theorem run_len (W:Nat→Nat)(l:List Ins):(runN W l).1.length≤l.length:=rest_len W l _ _
theorem getD_set0 (l:List Nat)(k j v:Nat):(l.set k v).getD j 0=if j=k∧k<l.length then v else l.getD j 0:=getD_set l k j v 0
theorem reck_lt {op a n:Nat}(ha:a<4294967296)(hn:n<4294967296):reckN op a n<4294967296:=by
 unfold reckN
 have h1:a|||n<2 ^ 32:=Nat.or_lt_two_pow (by omega) (by omega)
 have h2:a&&&n<2 ^ 32:=Nat.and_lt_two_pow _ (by omega)
 have h3:a^^^n<2 ^ 32:=Nat.xor_lt_two_pow (by omega) (by omega)
 have h4:a / n≤a:=Nat.div_le_self _ _
 have h5:a / 2 ^ (n%32)≤a:=Nat.div_le_self _ _
 repeat' split
 all_goals omega
theorem opd_lt {i:Ins}{s:Mc}(hs:s.ok)(hk:i.k<4294967296):opd i s<4294967296:=by
 unfold opd;split
 ·exact hs.x
 ·exact hk
theorem ld_lt {W:Nat→Nat}{i:Ins}{s:Mc}(hW:∀k,W k<4294967296)(hs:s.ok)(hk:i.k<4294967296):ldN W i s.m<4294967296:=by
 unfold ldN
 have:=hW i.k
 have:=hs.ms i.k
 repeat' split
 all_goals omega
theorem step_ok {W:Nat→Nat}{i:Ins}{s:Mc}(hW:∀k,W k<4294967296)(hs:s.ok)(hk:i.k<4294967296):(stepN W i s).1.ok:=by
 have h1:=ld_lt hW hs hk
 have h2:=opd_lt hs hk
 have h3:=fun op=>reck_lt (op:=op) hs.a h2
 obtain ⟨ha,hx,hm,hms⟩:=hs
 unfold stepN
 repeat' split
 all_goals (refine ⟨?_,?_,?_,?_⟩<;>dsimp only<;>first|assumption|exact h1|exact h3 _|(simp only [List.length_set];exact hm)|(intro j;rw [getD_set0];split<;>first|assumption|exact hms j))
theorem mc0_ok:mc0.ok:=⟨by decide,by decide,rfl,fun j=>by simp only [mc0,List.getD_eq_getElem?_getD,List.getElem?_replicate];split<;>decide⟩
end Go.Proofs.YtcnebdjhhfnmoaaGreatDoor
namespace Go.Proofs.YtcnebdjhhfnmoaaGreatDoor.Ju
def endV:Nat:=2147483648
def farS (i:Ins)(A:Nat):Nat:=if i.c / 16=0 then i.k else if holdsN (i.c / 16) A i.k=true then i.t else i.f
def runS (W:Nat→Nat):Nat→List Ins→Nat→Nat
 | 0,_,_=>endV
 | _+1,[],_=>endV
 | k+1,i::t,A=>if i.c%8=6 then i.k else if i.c%8=5 then runS W k (t.drop (farS i A)) A else if i.c=32 then runS W k t (W i.k) else runS W k t (A&&&i.k)
theorem runS_more (W:Nat→Nat):∀(k j:Nat) (l:List Ins) (A:Nat),l.length<k→l.length<j→runS W k l A=runS W j l A
 | 0,_,_,_,h,_=>by omega
 | _+1,0,_,_,_,h=>by omega
 | _+1,_+1,[],_,_,_=>rfl
 | k+1,j+1,i::t,A,h1,h2=>by
  rw [List.length_cons] at h1 h2
  unfold runS
  rw [runS_more W k j (t.drop (farS i A)) A (by rw [List.length_drop];omega) (by rw [List.length_drop];omega),runS_more W k j t (W i.k) (by omega) (by omega),runS_more W k j t (A&&&i.k) (by omega) (by omega)]
def runL (W:Nat→Nat)(l:List Ins)(A:Nat):Nat:=runS W (l.length+1) l A
theorem runL_cons (W:Nat→Nat)(i:Ins)(t:List Ins)(A:Nat):runL W (i::t) A=if i.c%8=6 then i.k else if i.c%8=5 then runL W (t.drop (farS i A)) A else if i.c=32 then runL W t (W i.k) else runL W t (A&&&i.k):=by
 show runS W (t.length+1+1) (i::t) A=_
 unfold runL
 conv=>lhs;unfold runS
 rw [runS_more W (t.length+1) ((t.drop (farS i A)).length+1) (t.drop (farS i A)) A (by rw [List.length_drop];omega) (by omega)]
theorem run_skipL (W:Nat→Nat)(k:Nat)(t:List Ins)(A:Nat):runL W (skipI k::t) A=runL W (t.drop k) A:=by
 rw [runL_cons,if_neg (by show ¬5%8=6;decide),if_pos (show (skipI k).c%8=5 from rfl),show farS (skipI k) A=k by simp [farS,skipI]]
def aft (n:Int):List PtM→List PtM
 | []=>[]
 | p::t=>if p.kd=1∧p.tQ=n then p::t else aft n t
theorem aft_len (n:Int):∀l:List PtM,(aft n l).length≤l.length
 | []=>Nat.le_refl _
 | p::t=>by unfold aft;have:=aft_len n t;split<;>simp;omega
def valN (W:Nat→Nat):Nat→List PtM→Nat→Nat
 | 0,_,_=>endV
 | _+1,[],_=>endV
 | k+1,p::t,A=>if p.kd=4 then valN W k (aft p.tQ t) A else if p.kd=3 then valN W k (aft (if holdsN (p.i.c / 16) A p.i.k=true then p.tQ else p.el) t) A
  else if p.kd=2 then (if p.i.c%8=6 then p.i.k else if p.i.c=32 then valN W k t (W p.i.k) else valN W k t (A&&&p.i.k)) else valN W k t A
theorem valN_more (W:Nat→Nat):∀(k j:Nat) (l:List PtM) (A:Nat),l.length<k→l.length<j→valN W k l A=valN W j l A
 | 0,_,_,_,h,_=>by omega
 | _+1,0,_,_,_,h=>by omega
 | _+1,_+1,[],_,_,_=>rfl
 | k+1,j+1,p::t,A,h1,h2=>by
  rw [List.length_cons] at h1 h2
  have ha:=fun n=>aft_len n t
  unfold valN
  rw [valN_more W k j (aft p.tQ t) A (by have:=ha p.tQ;omega) (by have:=ha p.tQ;omega),
   valN_more W k j (aft (if holdsN (p.i.c / 16) A p.i.k=true then p.tQ else p.el) t) A (by have:=ha (if holdsN (p.i.c / 16) A p.i.k=true then p.tQ else p.el);omega) (by have:=ha (if holdsN (p.i.c / 16) A p.i.k=true then p.tQ else p.el);omega),
   valN_more W k j t (W p.i.k) (by omega) (by omega),valN_more W k j t (A&&&p.i.k) (by omega) (by omega),valN_more W k j t A (by omega) (by omega)]
def valL (W:Nat→Nat)(l:List PtM)(A:Nat):Nat:=valN W (l.length+1) l A
theorem valL_cons (W:Nat→Nat)(p:PtM)(t:List PtM)(A:Nat):valL W (p::t) A=if p.kd=4 then valL W (aft p.tQ t) A else if p.kd=3 then valL W (aft (if holdsN (p.i.c / 16) A p.i.k=true then p.tQ else p.el) t) A
  else if p.kd=2 then (if p.i.c%8=6 then p.i.k else if p.i.c=32 then valL W t (W p.i.k) else valL W t (A&&&p.i.k)) else valL W t A:=by
 show valN W (t.length+1+1) (p::t) A=_
 have ha:=fun n=>aft_len n t
 unfold valL
 conv=>lhs;unfold valN
 rw [valN_more W (t.length+1) ((aft p.tQ t).length+1) (aft p.tQ t) A (by have:=ha p.tQ;omega) (by omega),
  valN_more W (t.length+1) ((aft (if holdsN (p.i.c / 16) A p.i.k=true then p.tQ else p.el) t).length+1) (aft (if holdsN (p.i.c / 16) A p.i.k=true then p.tQ else p.el) t) A (by have:=ha (if holdsN (p.i.c / 16) A p.i.k=true then p.tQ else p.el);omega) (by omega)]
def Smp (p:PtM):Prop:=(p.kd=2→p.i.c=32∨p.i.c=84∨p.i.c=6)∧(p.kd=3→p.i.c=21∨p.i.c=37∨p.i.c=53∨p.i.c=69)
structure Mns (W:Nat→Nat)(l:List PtM)(c:CdM):Prop where
 all:∀A,runL W c.ins A=valL W l A
 at_:∀n k,lk n c.bh=some k→k≤c.ins.length∧∀A,runL W (c.ins.drop (c.ins.length-k)) A=valL W (aft n l) A
theorem step_zero {p:PtM}{r:Nat×CdM}(h:(stepF p r).1=0):r.1=0∧(layF p r.2).1=0∧(stepF p r).2=(layF p r.2).2:=by
 unfold stepF at h ⊢
 by_cases h0:r.1≠0
 ·rw [if_pos h0] at h;exact absurd h h0
 ·rw [if_neg h0] at h ⊢
  by_cases h1:(layF p r.2).1≠0
  ·rw [if_pos h1] at h;exact absurd h h1
  ·rw [if_neg h1] at h ⊢
   by_cases h2:4096<(layF p r.2).2.ins.length
   ·rw [if_pos h2] at h;cases h
   ·rw [if_neg h2];exact ⟨by omega,by omega,rfl⟩
theorem aft_other {p:PtM}{t:List PtM}{n:Int}(h:¬(p.kd=1∧p.tQ=n)):aft n (p::t)=aft n t:=by conv=>lhs;unfold aft;rw [if_neg h]
theorem drop_more {x:List Ins}(y:List Ins)(k:Nat)(h:k≤y.length):(x++y).drop ((x++y).length-k)=y.drop (y.length-k):=by
 rw [List.length_append,List.drop_append,List.drop_of_length_le (by omega),List.nil_append]
 congr 1;omega
theorem Mns.ahead {W:Nat→Nat}{p:PtM}{t:List PtM}{c:CdM}(h:Mns W t c)(x:List Ins)(hk:p.kd≠1)(ha:∀A,runL W (x++c.ins) A=valL W (p::t) A):Mns W (p::t) ⟨x++c.ins,c.bh⟩:=by
 refine ⟨ha,fun n k hn=>?_⟩
 obtain ⟨h1,h2⟩:=h.at_ n k hn
 refine ⟨by rw [List.length_append];omega,fun A=>?_⟩
 show runL W ((x++c.ins).drop ((x++c.ins).length-k)) A=_
 rw [drop_more c.ins k h1,aft_other (fun a=>hk a.1)]
 exact h2 A
theorem make_mean (W:Nat→Nat):∀l:List PtM,(∀p∈l,Smp p)→(makeF l).1=0→Mns W l (makeF l).2
 | [],_,_=>⟨fun _=>rfl,fun n k h=>by simp [makeF,lk] at h⟩
 | p::t,hs,h=>by
  rw [makeF_cons] at h ⊢
  obtain ⟨h0,h1,h2⟩:=step_zero h
  have ih:=make_mean W t (fun q hq=>hs q (List.mem_cons_of_mem _ hq)) h0
  obtain ⟨c,hc⟩:∃c,c=(makeF t).2:=⟨_,rfl⟩
  rw [←hc] at ih h1 h2
  obtain ⟨s2,s3⟩:=hs p List.mem_cons_self
  rw [h2]
  clear h h0 h2 hc hs
  unfold layF at h1 ⊢
  by_cases k1:p.kd=1
  ·rw [if_pos k1] at h1 ⊢
   cases hl:lk p.tQ c.bh with
   | some v=>rw [hl] at h1;cases h1
   | none=>
    simp only
    have hv:∀A,valL W (p::t) A=valL W t A:=fun A=>by rw [valL_cons,if_neg (by omega),if_neg (by omega),if_neg (by omega)]
    refine ⟨fun A=>by rw [hv];exact ih.all A,fun n k hn=>?_⟩
    simp only [lk_cons] at hn ⊢
    by_cases e:p.tQ=n
    ·rw [if_pos e] at hn
     cases hn
     refine ⟨Nat.le_refl _,fun A=>?_⟩
     rw [Nat.sub_self,List.drop_zero,show aft n (p::t)=p::t by conv=>lhs;unfold aft;rw [if_pos ⟨k1,e⟩],hv]
     exact ih.all A
    ·rw [if_neg e] at hn
     rw [aft_other (fun a=>e a.2)]
     exact ih.at_ n k hn
  rw [if_neg k1] at h1 ⊢
  by_cases k2:p.kd=2
  ·rw [if_pos k2] at h1 ⊢
   have hc:=s2 k2
   rw [if_neg (by omega)]
   refine ih.ahead [p.i] k1 fun A=>?_
   show runL W (p.i::c.ins) A=_
   rw [runL_cons,valL_cons,if_neg (show ¬p.kd=4 by omega),if_neg (show ¬p.kd=3 by omega),if_pos k2,if_neg (show ¬p.i.c%8=5 by omega),ih.all,ih.all]
  rw [if_neg k2] at h1 ⊢
  by_cases k3:p.kd=3
  ·rw [if_pos k3] at h1 ⊢
   have hc:=s3 k3
   rw [if_neg (by omega)] at h1 ⊢
   cases ht:lk p.tQ c.bh with
   | none=>rw [ht] at h1;simp at h1
   | some bt=>
    cases hf:lk p.el c.bh with
    | none=>rw [ht,hf] at h1;simp at h1
    | some bf=>
     simp only
     obtain ⟨t1,t2⟩:=ih.at_ _ _ ht
     obtain ⟨f1,f2⟩:=ih.at_ _ _ hf
     have hv:∀A,valL W (p::t) A=if holdsN (p.i.c / 16) A p.i.k=true then valL W (aft p.tQ t) A else valL W (aft p.el t) A:=fun A=>by
      rw [valL_cons,if_neg (show ¬p.kd=4 by omega),if_pos k3]
      split<;>rfl
     have hr:∀(a b:Nat) (x:List Ins) (A:Nat),runL W (⟨p.i.c,a,b,p.i.k⟩::x) A=if holdsN (p.i.c / 16) A p.i.k=true then runL W (x.drop a) A else runL W (x.drop b) A:=fun a b x A=>by
      rw [runL_cons,if_neg (by show ¬p.i.c%8=6;omega),if_pos (by show p.i.c%8=5;omega)]
      unfold farS
      rw [if_neg (by show ¬p.i.c / 16=0;omega)]
      show runL W (x.drop (if holdsN (p.i.c / 16) A p.i.k=true then a else b)) A=_
      split<;>rfl
     obtain ⟨L,hL⟩:∃L,L=c.ins:=⟨_,rfl⟩
     rw [←hL] at t1 t2 f1 f2
     have e1:reachF L bf=if L.length-bf≤253 then (L.length-bf,L) else (0,skipI (L.length-bf)::L):=rfl
     rw [←hL]
     by_cases g1:L.length-bf≤253
     ·rw [if_pos g1] at e1
      have e2:reachF L bt=if L.length-bt≤253 then (L.length-bt,L) else (0,skipI (L.length-bt)::L):=rfl
      by_cases g2:L.length-bt≤253
      ·rw [if_pos g2] at e2
       have e:cmpF L p.i bt bf=[⟨p.i.c,L.length-bt,L.length-bf,p.i.k⟩]++c.ins:=by unfold cmpF;rw [e1];simp only;rw [e2,←hL];simp
       rw [e]
       refine ih.ahead _ k1 fun A=>?_
       rw [List.cons_append,List.nil_append,hr,hv,←hL,t2,f2]
      ·rw [if_neg g2] at e2
       have e:cmpF L p.i bt bf=[⟨p.i.c,0,L.length-bf+1,p.i.k⟩,skipI (L.length-bt)]++c.ins:=by unfold cmpF;rw [e1];simp only;rw [e2,←hL];simp
       rw [e]
       refine ih.ahead _ k1 fun A=>?_
       rw [List.cons_append,List.cons_append,List.nil_append,hr,hv,←hL,List.drop_zero,run_skipL,List.drop_succ_cons,t2,f2]
     ·rw [if_neg g1] at e1
      have e2:reachF (skipI (L.length-bf)::L) bt=if L.length+1-bt≤253 then (L.length+1-bt,skipI (L.length-bf)::L) else (0,skipI (L.length+1-bt)::skipI (L.length-bf)::L):=rfl
      have e3:(skipI (L.length-bf)::L).drop (L.length+1-bt)=L.drop (L.length-bt):=by
       rw [show L.length+1-bt=(L.length-bt)+1 from by omega,List.drop_succ_cons]
      by_cases g2:L.length+1-bt≤253
      ·rw [if_pos g2] at e2
       have e:cmpF L p.i bt bf=[⟨p.i.c,L.length+1-bt,0,p.i.k⟩,skipI (L.length-bf)]++c.ins:=by unfold cmpF;rw [e1];simp only;rw [e2,←hL];simp
       rw [e]
       refine ih.ahead _ k1 fun A=>?_
       rw [List.cons_append,List.cons_append,List.nil_append,hr,hv,←hL,List.drop_zero,run_skipL,e3,t2,f2]
      ·rw [if_neg g2] at e2
       have e:cmpF L p.i bt bf=[⟨p.i.c,0,1,p.i.k⟩,skipI (L.length+1-bt),skipI (L.length-bf)]++c.ins:=by unfold cmpF;rw [e1];simp only;rw [e2,←hL];simp
       rw [e]
       refine ih.ahead _ k1 fun A=>?_
       rw [List.cons_append,List.cons_append,List.cons_append,List.nil_append,hr,hv,←hL,List.drop_zero,List.drop_succ_cons,List.drop_zero,run_skipL,run_skipL,e3,t2,f2]
  rw [if_neg k3] at h1 ⊢
  by_cases k4:p.kd=4
  ·rw [if_pos k4] at h1 ⊢
   cases ht:lk p.tQ c.bh with
   | none=>rw [ht] at h1;cases h1
   | some b=>
    simp only
    obtain ⟨t1,t2⟩:=ih.at_ _ _ ht
    refine ih.ahead [skipI (c.ins.length-b)] k1 fun A=>?_
    show runL W (skipI (c.ins.length-b)::c.ins) A=_
    rw [run_skipL,t2,valL_cons,if_pos k4]
  ·rw [if_neg k4] at h1;cases h1
end Go.Proofs.YtcnebdjhhfnmoaaGreatDoor.Ju
