/- One instruction: does it always jump; what it takes from scratch, puts there; where it goes on; has it a right number. -/
import Derived.Test.YtcnebdjhhfnmoaaGreatDoorL01
import Derived.Test.YtcnebdjhhfnmoaaGreatDoorL12
import Derived.LoopTactic
import Derived.WalkLawsBesides
import Derived.Laws.CopyOwn
import Derived.Deep.RegionLaw
import Derived.Deep.RegionWith
import Derived.BigRegion
import Derived.ChangeKeysEq
import Derived.Laws.StructEq
import Derived.WalkSpells
set_option maxHeartbeats 32000000
set_option maxRecDepth 100000
namespace Go.Proofs.YtcnebdjhhfnmoaaGreatDoor
open Go.RowKit
theorem beq_nat (a b:Nat):((a:Int)==(b:Int))=decide (a=b):=by
 rw [Bool.eq_iff_iff];simp;omega
def OneB (b:Bool)(w:World)(e:Ending)(w':World):Prop:=e=.returned (.bool b)∧Below w.heap.size w w'
def OneN (k:IntKind)(n:Nat)(w:World)(e:Ending)(w':World):Prop:=e=.returned (.int k n)∧Below w.heap.size w w'
theorem one_below (w:World)(o:Obj):Below w.heap.size w (w.alloc o):=(Below.refl _ _).alloc (Nat.le_refl _) _
theorem always_any (c t f k:Nat)(w:World):Calls Tryz.prog 123 #[.agg #[.int .u16 c,.int .u8 t,.int .u8 f,.int .u32 k]] w (OneB (decide (c=5)) w):=by
 have hb:=beq_nat c 5
 have Hb:=qd hb
 clear hb
 go_enter Tryz.func123,Tryz.ntmps123
 go_wp2
 go_ret
 exact ⟨ret_bool Hb.out,one_below _ _⟩
theorem taken_any (x:Ins)(w:World)(hr:rangeB x=true):Calls Tryz.prog 83 #[.agg #[.int .u16 x.c,.int .u8 x.t,.int .u8 x.f,.int .u32 x.k]] w fun e w'=>e=.returned (.int .u16 (takenN x))∧w'=w.alloc (.cells #[.int .u16 x.c,.int .u8 x.t,.int .u8 x.f,.int .u32 x.k] 76):=by
 obtain ⟨c,t,f,k⟩:=x
 dsimp only at *
 by_cases ht:takes ⟨c,t,f,k⟩=true
 ·have hk:k<16:=takes_lt hr ht
  have hN:takenN ⟨c,t,f,k⟩=2 ^ k:=by unfold takenN;rw [if_pos ht]
  rw [hN]
  simp only [takes,Bool.or_eq_true,beq_iff_eq] at ht
  clear hr hN
  rcases ht with rfl|rfl
  all_goals
   rcases (by omega:k=0∨k=1∨k=2∨k=3∨k=4∨k=5∨k=6∨k=7∨k=8∨k=9∨k=10∨k=11∨k=12∨k=13∨k=14∨k=15) with rfl|rfl|rfl|rfl|rfl|rfl|rfl|rfl|rfl|rfl|rfl|rfl|rfl|rfl|rfl|rfl
   all_goals
    go_enter Tryz.func83,Tryz.ntmps83
    go_wp2
    go_ret
    exact ⟨rfl,rfl⟩
 ·have hN:takenN ⟨c,t,f,k⟩=0:=by unfold takenN;rw [if_neg ht]
  rw [hN]
  have h1:((c:Int)==96)=false:=by rw [←Bool.not_eq_true];intro h;apply ht;simp [takes] at *;omega
  have h2:((c:Int)==97)=false:=by rw [←Bool.not_eq_true];intro h;apply ht;simp [takes] at *;omega
  clear hr hN ht
  go_enter Tryz.func83,Tryz.ntmps83
  go_wp2
  go_ret
  exact ⟨rfl,rfl⟩
theorem put_any (x:Ins)(w:World)(hr:rangeB x=true):Calls Tryz.prog 84 #[.agg #[.int .u16 x.c,.int .u8 x.t,.int .u8 x.f,.int .u32 x.k]] w fun e w'=>e=.returned (.int .u16 (putN x))∧w'=w.alloc (.cells #[.int .u16 x.c,.int .u8 x.t,.int .u8 x.f,.int .u32 x.k] 76):=by
 obtain ⟨c,t,f,k⟩:=x
 dsimp only at *
 by_cases ht:puts ⟨c,t,f,k⟩=true
 ·have hk:k<16:=puts_lt hr ht
  have hN:putN ⟨c,t,f,k⟩=2 ^ k:=by unfold putN;rw [if_pos ht]
  rw [hN]
  simp only [puts,Bool.or_eq_true,beq_iff_eq] at ht
  clear hr hN
  rcases ht with rfl|rfl
  all_goals
   rcases (by omega:k=0∨k=1∨k=2∨k=3∨k=4∨k=5∨k=6∨k=7∨k=8∨k=9∨k=10∨k=11∨k=12∨k=13∨k=14∨k=15) with rfl|rfl|rfl|rfl|rfl|rfl|rfl|rfl|rfl|rfl|rfl|rfl|rfl|rfl|rfl|rfl
   all_goals
    go_enter Tryz.func84,Tryz.ntmps84
    go_wp2
    go_ret
    exact ⟨rfl,rfl⟩
 ·have hN:putN ⟨c,t,f,k⟩=0:=by unfold putN;rw [if_neg ht]
  rw [hN]
  have h1:((c:Int)==2)=false:=by rw [←Bool.not_eq_true];intro h;apply ht;simp [puts] at *;omega
  have h2:((c:Int)==3)=false:=by rw [←Bool.not_eq_true];intro h;apply ht;simp [puts] at *;omega
  clear hr hN ht
  go_enter Tryz.func84,Tryz.ntmps84
  go_wp2
  go_ret
  exact ⟨rfl,rfl⟩
end Go.Proofs.YtcnebdjhhfnmoaaGreatDoor
namespace Go.Proofs.YtcnebdjhhfnmoaaGreatDoor
open Go.RowKit
def NextPost (l:List Nat)(w:World)(e:Ending)(w':World):Prop:=
 ∃A cp,e=.returned (.slice A l.length cp)∧l.length≤cp∧Seg w' w.heap.size 1 l.length A (ints l)∧Below w.heap.size w w'
theorem seg1 (w:World)(T n B:Nat)(hB:B≤w.heap.size):Seg (w.alloc (.cells #[.int .i64 n] T)) B 1 1 (some ⟨w.heap.size,0,none⟩) (ints [n]):=by
 refine ⟨rfl,.inr ⟨w.heap.size,0,rfl,hB,by simp,fun j u hu=>?_⟩⟩
 have hj:j<1:=by simpa [ints] using (List.getElem?_eq_some_iff.1 hu).1
 obtain rfl:j=0:=by omega
 simp [ints] at hu;subst hu;simp
theorem seg2 (w:World)(T n m B:Nat)(hB:B≤w.heap.size):Seg (w.alloc (.cells #[.int .i64 n,.int .i64 m] T)) B 1 2 (some ⟨w.heap.size,0,none⟩) (ints [n,m]):=by
 refine ⟨rfl,.inr ⟨w.heap.size,0,rfl,hB,by simp,fun j u hu=>?_⟩⟩
 have hj:j<2:=by simpa [ints] using (List.getElem?_eq_some_iff.1 hu).1
 rcases (by omega:j=0∨j=1) with rfl|rfl<;>(simp [ints] at hu;subst hu;simp)
theorem box_cells {w w2:World}{T c t f k:Nat}(hb:Below (w.alloc (.cells #[.int .u16 c,.int .u8 t,.int .u8 f,.int .u32 k] T)).heap.size (w.alloc (.cells #[.int .u16 c,.int .u8 t,.int .u8 f,.int .u32 k] T)) w2) :
  w2.cell? ⟨w.heap.size,0,none⟩=some (.int .u16 c)∧w2.cell? ⟨w.heap.size,1,none⟩=some (.int .u8 t)∧w2.cell? ⟨w.heap.size,2,none⟩=some (.int .u8 f)∧w2.cell? ⟨w.heap.size,3,none⟩=some (.int .u32 k):=by
 have h:=(Bk.new w T #[.int .u16 c,.int .u8 t,.int .u8 f,.int .u32 k] rfl).kept hb
 exact ⟨h.cell 0 rfl,h.cell 1 rfl,h.cell 2 rfl,h.cell 3 rfl⟩
theorem box_below {w w2:World}{o:Obj}(hb:Below (w.alloc o).heap.size (w.alloc o) w2):Below w.heap.size w w2:=(one_below w o).trans (hb.mono (by simp))
theorem next_any (x:Ins)(a:Nat)(w:World)(hx:x.ok)(ha:a≤65536):Calls Tryz.prog 80 #[.agg #[.int .u16 x.c,.int .u8 x.t,.int .u8 x.f,.int .u32 x.k],.int .i64 a] w (NextPost (ways x a) w):=by
 obtain ⟨c,t,f,k⟩:=x
 obtain ⟨h1,h2,h3,h4⟩:=hx
 dsimp only at *
 obtain ⟨r,hr⟩:∃r,r=c%8:=⟨_,rfl⟩
 have C:=qd (fun w=>class_any c w h1)
 rw [←hr] at C
 by_cases h6:r=6
 ·subst h6
  have hw:ways ⟨c,t,f,k⟩ a=[]:=by simp [ways,rel,←hr]
  rw [hw]
  clear hr hw
  go_enter Tryz.func80,Tryz.ntmps80
  go_wp2_with fail
  refine (C.out _).mono ?_
  rintro e w' ⟨rfl,rfl⟩
  go_wp2_with fail
  go_ret
  exact ⟨_,_,rfl,Nat.le_refl _,Seg.nil _ _ _ _,one_below _ _⟩
 ·have hb6:((r:Int)==6)=false:=by simp;omega
  by_cases h5:r=5
  ·subst h5
   have A:=qd (fun w=>always_any c t f k w)
   by_cases hc:c=5
   ·have hw:ways ⟨c,t,f,k⟩ a=[a+1+k]:=by simp [ways,rel,hc]
    rw [hw]
    rw [decide_eq_true hc] at A
    clear hr hw h6 hc
    go_enter Tryz.func80,Tryz.ntmps80
    go_wp2_with fail
    refine (C.out _).mono ?_
    rintro e w' ⟨rfl,rfl⟩
    go_wp2_with fail
    refine (C.out _).mono ?_
    rintro e w' ⟨rfl,rfl⟩
    go_wp2_with fail
    refine (A.out _).mono ?_
    rintro e w2 ⟨rfl,hb2⟩
    obtain ⟨q0,q1,q2,q3⟩:=box_cells hb2
    have Hb:=qd (box_below hb2)
    clear hb2
    go_wp2_with fail
    go_ret
    exact ⟨_,1,rfl,Nat.le_refl _,seg1 _ _ _ _ Hb.out.size,Hb.out.alloc Hb.out.size _⟩
   ·have hw:ways ⟨c,t,f,k⟩ a=[a+1+t,a+1+f]:=by simp [ways,rel,←hr,hc]
    rw [hw]
    rw [decide_eq_false hc] at A
    clear hr hw h6 hc
    go_enter Tryz.func80,Tryz.ntmps80
    go_wp2_with fail
    refine (C.out _).mono ?_
    rintro e w' ⟨rfl,rfl⟩
    go_wp2_with fail
    refine (C.out _).mono ?_
    rintro e w' ⟨rfl,rfl⟩
    go_wp2_with fail
    refine (A.out _).mono ?_
    rintro e w2 ⟨rfl,hb2⟩
    obtain ⟨q0,q1,q2,q3⟩:=box_cells hb2
    have Hb:=qd (box_below hb2)
    clear hb2
    go_wp2_with fail
    go_ret
    exact ⟨_,2,rfl,Nat.le_refl _,seg2 _ _ _ _ _ Hb.out.size,Hb.out.alloc Hb.out.size _⟩
  ·have hb5:((r:Int)==5)=false:=by simp;omega
   have hb5':((r:Int) != 5)=true:=by simp;omega
   have hw:ways ⟨c,t,f,k⟩ a=[a+1]:=by
    have e6:c%8≠6:=hr▸h6
    have e5:c%8≠5:=hr▸h5
    simp [ways,rel,e6,e5]
   rw [hw]
   clear hr hw h6 h5
   go_enter Tryz.func80,Tryz.ntmps80
   go_wp2_with fail
   refine (C.out _).mono ?_
   rintro e w' ⟨rfl,rfl⟩
   go_wp2_with fail
   refine (C.out _).mono ?_
   rintro e w' ⟨rfl,rfl⟩
   go_wp2_with fail
   go_ret
   have h0:=one_below w (.cells #[.int .u16 c,.int .u8 t,.int .u8 f,.int .u32 k] 76)
   have s:=seg1 (w.alloc (.cells #[.int .u16 c,.int .u8 t,.int .u8 f,.int .u32 k] 76)) 3 (a+1) w.heap.size h0.size
   rw [World.size_alloc] at s
   exact ⟨_,1,rfl,Nat.le_refl _,s,h0.alloc h0.size _⟩
end Go.Proofs.YtcnebdjhhfnmoaaGreatDoor
namespace Go.Proofs.YtcnebdjhhfnmoaaGreatDoor
open Go.RowKit
theorem range_any (x:Ins)(w:World)(hx:x.ok):Calls Tryz.prog 81 #[.agg #[.int .u16 x.c,.int .u8 x.t,.int .u8 x.f,.int .u32 x.k]] w (OneB (rangeB x) w):=by
 obtain ⟨c,t,f,k⟩:=x
 obtain ⟨h1,h2,h3,h4⟩:=hx
 dsimp only at *
 by_cases e1:c=32
 ·subst e1
  by_cases h5:k%4=0
  ·have b1:((k:Int)%4==0)=true:=by simp;omega
   have hR:rangeB ⟨32,t,f,k⟩=decide ((k:Int)≤60):=by
    rw [Bool.eq_iff_iff];simp [rangeB,h5];omega
   rw [hR]
   clear h5 hR
   go_enter Tryz.func81,Tryz.ntmps81
   go_wp2
   all_goals
    go_ret
    exact ⟨rfl,one_below _ _⟩
  ·have b1:((k:Int)%4==0)=false:=by simp;omega
   have hR:rangeB ⟨32,t,f,k⟩=false:=by simp [rangeB,h5]
   rw [hR]
   clear h5 hR
   go_enter Tryz.func81,Tryz.ntmps81
   go_wp2
   go_ret
   exact ⟨rfl,one_below _ _⟩
 ·by_cases e2:c=96∨c=97∨c=2∨c=3
  ·have hR:rangeB ⟨c,t,f,k⟩=decide ((k:Int)<16):=by
    rw [Bool.eq_iff_iff];simp only [rangeB,if_neg e1,if_pos e2,decide_eq_true_eq];omega
   rw [hR]
   clear e1 hR
   rcases e2 with rfl|rfl|rfl|rfl
   all_goals
    go_enter Tryz.func81,Tryz.ntmps81
    go_wp2
    go_ret
    exact ⟨rfl,one_below _ _⟩
  ·by_cases e3:c=52
   ·subst e3
    have hR:rangeB ⟨52,t,f,k⟩=((k:Int) != 0):=by
     rw [Bool.eq_iff_iff];simp [rangeB]
    rw [hR]
    clear e1 e2 hR
    go_enter Tryz.func81,Tryz.ntmps81
    go_wp2
    go_ret
    exact ⟨rfl,one_below _ _⟩
   ·by_cases e4:c=100∨c=116
    ·have hR:rangeB ⟨c,t,f,k⟩=decide ((k:Int)<32):=by
      rw [Bool.eq_iff_iff];simp only [rangeB,if_neg e1,if_neg e2,if_neg e3,if_pos e4,decide_eq_true_eq];omega
     rw [hR]
     clear e1 e2 e3 hR
     rcases e4 with rfl|rfl
     all_goals
      go_enter Tryz.func81,Tryz.ntmps81
      go_wp2
      go_ret
      exact ⟨rfl,one_below _ _⟩
    ·have hR:rangeB ⟨c,t,f,k⟩=true:=by simp only [rangeB,if_neg e1,if_neg e2,if_neg e3,if_neg e4]
     rw [hR]
     have n0:((c:Int)==32)=false:=by simp;omega
     have n1:((c:Int)==96)=false:=by simp;omega
     have n2:((c:Int)==97)=false:=by simp;omega
     have n3:((c:Int)==2)=false:=by simp;omega
     have n4:((c:Int)==3)=false:=by simp;omega
     have n5:((c:Int)==52)=false:=by simp;omega
     have n6:((c:Int)==100)=false:=by simp;omega
     have n7:((c:Int)==116)=false:=by simp;omega
     clear e1 e2 e3 e4 hR
     go_enter Tryz.func81,Tryz.ntmps81
     go_wp2
     go_ret
     exact ⟨rfl,one_below _ _⟩
theorem max_one (p:Nat)(A:Option Addr)(cp:Nat)(w:World)(B:Nat)(h:Seg w B 1 1 A (ints [p])):Calls Tryz.prog 79 #[.slice A 1 cp] w fun e w'=>e=.returned (.int .i64 p)∧w=w':=by
 obtain ⟨b,o,rfl,_,hl,hc⟩:=h.pos (by omega)
 have c0:w.cell? ⟨b,o,none⟩=some (.int .i64 p):=hc 0 _ rfl
 clear h hc
 go_enter Tryz.func79,Tryz.ntmps79
 go_wp2
 go_loop [3,4] (fun v i=>v=.int .i64 p∧i=.int .i64 1) (fun _ _=>0)
 case atStart=>exact ⟨rfl,rfl⟩
 case round=>
  obtain ⟨rfl,rfl⟩:=hrel
  go_wp2
  go_ret
  exact ⟨rfl,rfl⟩
theorem max_if (p q:Nat):(if p<q then (q:Int) else p)=max (p:Int) (q:Int):=by split<;>omega
theorem max_two (p q:Nat)(A:Option Addr)(cp:Nat)(w:World)(B:Nat)(h:Seg w B 1 2 A (ints [p,q]))(_hp:p≤4295100000)(_hq:q≤4295100000):Calls Tryz.prog 79 #[.slice A 2 cp] w fun e w'=>e=.returned (.int .i64 (max p q:Nat))∧w=w':=by
 obtain ⟨b,o,rfl,_,hl,hc⟩:=h.pos (by omega)
 have c0:w.cell? ⟨b,o,none⟩=some (.int .i64 p):=hc 0 _ rfl
 have c1:w.cell? ⟨b,o+1,none⟩=some (.int .i64 q):=hc 1 _ rfl
 have hm:((max p q:Nat):Int)=max (p:Int) (q:Int):=by omega
 rw [hm]
 clear h hc hm
 go_enter Tryz.func79,Tryz.ntmps79
 go_wp2
 go_loop [3,4] (fun v i=>(v=.int .i64 p∧i=.int .i64 1)∨(v=.int .i64 (max (p:Int) (q:Int))∧i=.int .i64 2)) (fun _ i=>2-(intOf i).toNat)
 case atStart=>exact .inl ⟨rfl,rfl⟩
 case round=>
  rcases hrel with ⟨rfl,rfl⟩|⟨rfl,rfl⟩
  ·go_wp2
   go_round
   case rel=>exact .inr ⟨by rw [max_if],rfl⟩
   case measure=>simp [intOf]
  ·go_wp2
   go_ret
   exact ⟨rfl,rfl⟩
def MaxPost (b:Nat)(w:World)(e:Ending)(w':World):Prop:=e=.returned (.int .i64 b)∧w=w'
theorem max_ways (x:Ins)(a:Nat)(hx:x.ok)(ha:a≤65536)(h5:x.c%8=5)(n:Nat)(han:a<n):∃m:Nat,(jumpB x (n-a-1)=decide (m<n))∧m≤4295100000 ∧
  ∀(w:World) (B:Nat) (A:Option Addr) (cp:Nat),Seg w B 1 (ways x a).length A (ints (ways x a))→Calls Tryz.prog 79 #[.slice A (ways x a).length cp] w (MaxPost m w):=by
 obtain ⟨c,t,f,k⟩:=x
 obtain ⟨h1,h2,h3,h4⟩:=hx
 dsimp only at *
 by_cases hc:c=5
 ·subst hc
  refine ⟨a+1+k,?_,by omega,fun w B A cp h=>?_⟩
  ·rw [Bool.eq_iff_iff];simp [jumpB,rel];omega
  ·exact max_one _ A cp w B h
 ·have hw:ways ⟨c,t,f,k⟩ a=[a+1+t,a+1+f]:=by simp [ways,rel,h5,hc]
  rw [hw]
  refine ⟨max (a+1+t) (a+1+f),?_,by omega,fun w B A cp h=>?_⟩
  ·rw [Bool.eq_iff_iff];simp [jumpB,rel,h5,hc];omega
  ·exact max_two _ _ A cp w B h (by omega) (by omega)
theorem alone_any (x:Ins)(a n:Nat)(w:World)(hx:x.ok)(ha:a<n)(hn:n≤65536) :
  Calls Tryz.prog 41 #[.agg #[.int .u16 x.c,.int .u8 x.t,.int .u8 x.f,.int .u32 x.k],.int .i64 a,.int .i64 n] w (OneN .i64 (alone x (n-a-1)) w):=by
 have hgo:∀b,b=rangeB x→∀g,g=jumpB x (n-a-1)→∀kn,kn=knownB x.c→∀r,r=x.c%8→alone x (n-a-1)=if kn=false then 208 else if g=false then 207 else if b=false then 204 else 0:=by
  rintro b rfl g rfl kn rfl r rfl;rfl
 have HNx:=qd (fun (w:World)=>next_any x a w hx (by omega))
 have HR:=qd (fun (w:World)=>range_any x w hx)
 have HK:=qd (fun (w:World)=>known_any x.c w hx.1)
 have HC:=qd (fun (w:World)=>class_any x.c w hx.1)
 have HM:=qd (fun h5=>max_ways x a hx (by omega) h5 n ha)
 have HJ:=qd (show x.c%8≠5→jumpB x (n-a-1)=true from fun h5=>by simp [jumpB,h5])
 obtain ⟨b,hb⟩:∃b,b=rangeB x:=⟨_,rfl⟩
 obtain ⟨kn,hkn⟩:∃b,b=knownB x.c:=⟨_,rfl⟩
 obtain ⟨r,hr⟩:∃b,b=x.c%8:=⟨_,rfl⟩
 obtain ⟨ws,hws⟩:∃b,b=ways x a:=⟨_,rfl⟩
 rw [←hb] at HR
 rw [←hkn] at HK
 rw [←hr] at HC HM HJ
 rw [←hws] at HNx HM
 have HE:=qd (fun g hg=>hgo b hb g hg kn hkn r hr)
 obtain ⟨c,t,f,k⟩:=x
 clear hgo hb hkn hr hws hx
 dsimp only at *
 cases kn with
 | false=>
  rw [HE.out _ rfl]
  go_enter Tryz.func41,Tryz.ntmps41
  go_wp2_with fail
  refine (HK.out _).mono ?_
  rintro e w' ⟨rfl,rfl⟩
  go_wp2_with fail
  go_ret
  exact ⟨rfl,one_below _ _⟩
 | true=>
  by_cases h5:r=5
  ·subst h5
   obtain ⟨m,hm,hml,hmax⟩:=HM.out rfl
   have HX:=qd hmax
   rw [HE.out _ rfl,hm]
   clear hmax HE HM HJ hm
   by_cases hmn:m<n
   ·have hd:¬(n:Int)≤(m:Int):=by omega
    have hd':decide ((n:Int)≤(m:Int))=false:=by simp;omega
    rw [decide_eq_true hmn]
    clear hmn
    cases b
    all_goals
     go_enter Tryz.func41,Tryz.ntmps41
     go_wp2_with fail
     refine (HK.out _).mono ?_
     rintro e w' ⟨rfl,rfl⟩
     go_wp2_with fail
     refine (HC.out _).mono ?_
     rintro e w' ⟨rfl,rfl⟩
     go_wp2_with fail
     refine (HNx.out _).mono ?_
     rintro e w2 ⟨A,cp,rfl,_,hs,hb2⟩
     obtain ⟨q0,q1,q2,q3⟩:=box_cells hb2
     have Hb:=qd (box_below hb2)
     have Hs:=qd hs
     clear hb2 hs
     go_wp2_with fail
     refine (HX.out _ _ _ _ Hs.out).mono ?_
     rintro e w' ⟨rfl,rfl⟩
     go_wp2_with fail
     refine (HR.out _).mono ?_
     rintro e w3 ⟨rfl,hb3⟩
     have Hb3:=qd (Hb.out.trans (hb3.mono Hb.out.size))
     clear hb3
     go_wp2_with fail
     go_ret
     exact ⟨rfl,Hb3.out⟩
   ·have hd:(n:Int)≤(m:Int):=by omega
    have hd':decide ((n:Int)≤(m:Int))=true:=by simp;omega
    rw [decide_eq_false hmn]
    clear hmn
    go_enter Tryz.func41,Tryz.ntmps41
    go_wp2_with fail
    refine (HK.out _).mono ?_
    rintro e w' ⟨rfl,rfl⟩
    go_wp2_with fail
    refine (HC.out _).mono ?_
    rintro e w' ⟨rfl,rfl⟩
    go_wp2_with fail
    refine (HNx.out _).mono ?_
    rintro e w2 ⟨A,cp,rfl,_,hs,hb2⟩
    have Hb:=qd (box_below hb2)
    have Hs:=qd hs
    clear hb2 hs
    go_wp2_with fail
    refine (HX.out _ _ _ _ Hs.out).mono ?_
    rintro e w' ⟨rfl,rfl⟩
    go_wp2_with fail
    go_ret
    exact ⟨rfl,Hb.out⟩
  ·have hb5:((r:Int)==5)=false:=by simp;omega
   rw [HE.out _ (HJ.out h5).symm]
   clear HE HM HJ h5
   cases b
   all_goals
    go_enter Tryz.func41,Tryz.ntmps41
    go_wp2_with fail
    refine (HK.out _).mono ?_
    rintro e w' ⟨rfl,rfl⟩
    go_wp2_with fail
    refine (HC.out _).mono ?_
    rintro e w' ⟨rfl,rfl⟩
    go_wp2_with fail
    refine (HR.out _).mono ?_
    rintro e w3 ⟨rfl,hb3⟩
    have Hb3:=qd (box_below hb3)
    clear hb3
    go_wp2_with fail
    go_ret
    exact ⟨rfl,Hb3.out⟩
end Go.Proofs.YtcnebdjhhfnmoaaGreatDoor
namespace Go.Proofs.YtcnebdjhhfnmoaaGreatDoor
open Go.RowKit
theorem and_low (n:Nat)(h:n≤65536):bits .and .u64 (n:Int) 4294967295=n:=by
 rw [show (4294967295:Int)=((4294967295:Nat):Int) from rfl,u64_and_nat n 4294967295 (by omega) (by omega),Nat.and_two_pow_sub_one_eq_mod n 32]
 omega
theorem mul64_any (n:Nat)(w:World)(h:n≤65536):Calls Tryz.prog 156 #[.int .u64 1,.int .u64 n] w fun e w'=>e=.returned (.tuple #[.int .u64 0,.int .u64 n])∧w=w':=by
 have e1:bits .and .u64 (1:Int) 4294967295=1:=and_low 1 (by omega)
 have e2:=and_low n h
 have e3:bits .and .u64 (0:Int) 4294967295=0:=and_low 0 (by omega)
 have d1:(n:Int) / 4294967296=0:=by omega
 go_enter Tryz.func156,Tryz.ntmps156
 go_wp2
 go_ret2
 exact ⟨rfl,rfl⟩
theorem mul_any (n:Nat)(w:World)(h:n≤65536):Calls Tryz.prog 124 #[.int .u64 1,.int .u64 n] w fun e w'=>e=.returned (.tuple #[.int .u64 0,.int .u64 n])∧w=w':=by
 go_enter Tryz.func124,Tryz.ntmps124
 go_wp2_with fail
 refine (mul64_any n _ h).mono ?_
 rintro e w' ⟨rfl,rfl⟩
 go_wp2_with fail
 go_ret2
 exact ⟨rfl,rfl⟩
theorem infoScr:(Tryz.prog.info? 196).map (fun i=>(i.zero,i.size,i.bytes))=some (some (.int .u16 0),1,2):=by kernel_rfl
theorem sizeScr:(Tryz.prog.info? 196).map (·.size)=some 1:=by kernel_rfl
def u16sC (l:List Nat):List Value:=l.map fun (x:Nat)=>Value.int .u16 x
theorem u16s_one (l:List Nat):∀u∈u16sC l,u.oneCell'=true:=by
 intro u hu
 obtain ⟨x,_,rfl⟩:=List.mem_map.1 hu
 rfl
def full (n m:Nat):List Nat:=List.replicate m 65535++List.replicate (n-m) 0
theorem full_zero (n:Nat):full n 0=List.replicate n 0:=by simp [full]
theorem full_all (n:Nat):full n n=List.replicate n 65535:=by simp [full]
theorem full_len {n m:Nat}(h:m≤n):(full n m).length=n:=by simp [full];omega
theorem splice_rep {α:Type}(x y:α){n m j:Nat}:splice (List.replicate m x++List.replicate (n-m) y) m (List.replicate j x)=List.replicate (m+j) x++List.replicate (n-(m+j)) y:=by
 unfold splice
 rw [List.take_append_of_le_length (by simp),List.take_of_length_le (by simp),List.drop_append,List.drop_of_length_le (by simp),List.nil_append,←List.append_assoc,List.replicate_append_replicate,List.drop_replicate]
 congr 2
 simp
 omega
theorem splice_full {n m j:Nat}:splice (u16sC (full n m)) m (u16sC (List.replicate j 65535))=u16sC (full n (m+j)):=by
 simp only [u16sC,full,List.map_append,List.map_replicate]
 exact splice_rep _ _
theorem full_at {n m j:Nat}(hj:j<m):(u16sC (full n m))[j]?=some (.int .u16 65535):=by
 simp only [u16sC,full,List.map_append,List.map_replicate]
 rw [List.getElem?_append_left (by simpa using hj)]
 simp [hj]
def RepPost (n:Nat)(w:World)(e:Ending)(w':World):Prop:=
 ∃g,e=.returned (.slice (some ⟨g,0,none⟩) n n)∧w.heap.size≤g∧Bk w' g 196 (u16sC (List.replicate n 65535))∧Below w.heap.size w w'
theorem rep_start {w w2:World}{n b:Nat}(hb:b<w.heap.size)(hc:w.cell? ⟨b,0,none⟩=some (.int .u16 65535))(hown2:w2.ownsRow w.heap.size 196 1 (.slice (some ⟨w.heap.size,0,none⟩) n n) n (madeCells (Value.int .u16 0).cells (n*1)).toList)(hg2:w.grownBy w2 none) :
  Hid (Bk w2 w.heap.size 196 (u16sC (full n 0)))∧Hid (∀j v,(u16sC [65535])[j]?=some v→w2.cell? ((⟨b,0,none⟩:Addr).add j)=some v)∧Hid (Below w.heap.size w w2):=by
 have HB:Below w.heap.size w w2:=(Below.refl _ _).grown hg2 (Nat.le_refl _) (fun k hk=>by cases hk)
 rw [show (Value.int .u16 0).cells=#[Value.int .u16 0] from rfl,toList_madeCells_one,Nat.mul_one] at hown2
 have hb2:=bk_full hown2
 rw [show List.replicate n (Value.int .u16 0)=u16sC (full n 0) by simp [full_zero,u16sC]] at hb2
 refine ⟨hb2,fun j v hv=>?_,HB⟩
 have hj:j<1:=by simpa [u16sC] using (List.getElem?_eq_some_iff.1 hv).1
 obtain rfl:j=0:=by omega
 simp [u16sC] at hv;subst hv
 simp only [Addr.add]
 exact (HB.cell (p:=⟨b,0,none⟩) hb).trans hc
theorem repeat_any (n b:Nat)(w:World)(hn0:0<n)(hn:n≤65536)(hc:w.cell? ⟨b,0,none⟩=some (.int .u16 65535))(hb:b<w.heap.size) :
  Calls Tryz.prog 82 #[.slice (some ⟨b,0,none⟩) 1 1,.int .i64 n] w (RepPost n w):=by
 obtain ⟨i0,hi,hz0,hz1,hz2⟩:=info_parts infoScr
 have Hc:=qd hc
 clear hc
 have hbig:decide ((9223372036854775807:Int)<(n:Int))=false:=by simp;omega
 have hneg:decide ((n:Int)<0)=false:=by simp
 go_enter Tryz.func82,Tryz.ntmps82
 go_wp2_with fail
 refine (mul_any n _ hn).mono ?_
 rintro e w' ⟨rfl,rfl⟩
 go_wp2_with (first|(at_make;refine wpList_make_full _ rfl _ _ 194 rfl w.heap.size 196 i0 (.int .u16 0) 1 Tryz.underlying194 hi hz0 hz1 .i64 .i64 _ _ n rfl rfl (by omega) (by omega) (by rw [hz2];omega) (by unfold maxLen;omega) (Nat.le_refl _) ?_;intro w2 hown2 hg2;obtain ⟨Hb2,Hs,HB⟩:=rep_start hb Hc.out hown2 hg2;clear hown2 hg2)|(refine wpList_copy_splice rfl (.tmp 31) (.tmp 32) 194 194 rfl 196 Tryz.underlying194 sizeScr _ _ _ _ _ _ rfl rfl w.heap.size 0 (u16sC (full n 0)) 196 Hb2.out (u16sC [65535]) (show 1=Nat.min 1 n from (Nat.min_eq_left (by omega)).symm) (fun _=>⟨rfl,_,rfl,Hs.out⟩) (by simp [u16sC,full_len];omega) (u16s_one _) w.heap.size w HB.out (Nat.le_refl _) ?_;intro w4 hg4 hb4;clear Hb2 Hs HB))
 have Hg4:=qd (show Bk w4 w.heap.size 196 (u16sC (full n 1)) from (splice_full (n:=n) (m:=0) (j:=1))▸hg4.out)
 have Hb4:=qd hb4
 clear hg4 hb4
 go_loopw [8] (fun i wr=>∃k:Nat,1≤k∧k≤n∧i=.int .i64 k∧Hid (Bk wr w.heap.size 196 (u16sC (full n k)))∧Hid (Below w.heap.size w wr)) (fun i _=>n-(intOf i).toNat)
 case atStart=>exact ⟨1,by omega,by omega,rfl,Hg4,Hb4⟩
 case round=>
  obtain ⟨k,hk1,hk,rfl,HB,Hb⟩:=hrel
  by_cases hlt:k<n
  ·obtain ⟨j,hj⟩:∃j,j=Nat.min k (n-k):=⟨_,rfl⟩
   have hj2:j≤k∧j≤n-k∧1≤j:=by rw [hj];exact ⟨Nat.min_le_left _ _,Nat.min_le_right _ _,Nat.le_min.2 ⟨hk1,by omega⟩⟩
   have Hj:=qd hj
   have hne:¬n=k:=by omega
   have Hsrc:=qd (show ∀i v,(u16sC (List.replicate j 65535))[i]?=some v→wr.drew.cell? ((⟨w.heap.size,0,none⟩:Addr).add i)=some v from fun i v hv=>by
    have hi:i<j:=by simpa [u16sC] using (List.getElem?_eq_some_iff.1 hv).1
    have h1:=HB.out.cell i (full_at (n:=n) (m:=k) (by omega))
    have h2:v=.int .u16 65535:=by simpa [u16sC,hi] using hv.symm
    subst h2
    rw [←h1]
    unfold Addr.add
    split
    ·simp_all
    ·simp)
   have hwr:IntKind.i64.wrap ((k:Int)+(j:Int))=((k+j:Nat):Int):=by rw [IntWalk.i64_in _ (by omega)];rfl
   clear hj
   go_wp2_with fail
   go_region_law (refine step_copy_splice rfl (.tmp 41) (.tmp 44) 194 194 rfl 196 Tryz.underlying194 sizeScr (some ⟨w.heap.size,k,none⟩) (some ⟨w.heap.size,0,none⟩) (n-k) (n-k) k n (by simp only [Act.put,List.getElem_toArray,List.getElem_cons_succ,List.getElem_cons_zero,List.setIfInBounds_toArray,List.set_cons_zero,List.set_cons_succ];rfl) (by simp only [Act.put,List.getElem_toArray,List.getElem_cons_succ,List.getElem_cons_zero,List.setIfInBounds_toArray,List.set_cons_zero,List.set_cons_succ];rfl) w.heap.size k (u16sC (full n k)) 196 HB.out.drew (u16sC (List.replicate j 65535)) (by simp only [u16sC,List.length_map,List.length_replicate];exact Hj.out) (fun _=>⟨rfl,_,rfl,Hsrc.out⟩) (by simp [u16sC,full_len hk];omega) (u16s_one _) w.heap.size w Hb.out.drew (Nat.le_refl _) ?_;intro w4 hg4 hb4;rw [show (u16sC (List.replicate j 65535)).length=j by simp [u16sC]])
   have Hg4:=qd (show Bk w4 w.heap.size 196 (u16sC (full n (k+j))) from splice_full (n:=n) (m:=k) (j:=j)▸hg4.out)
   have Hb4:=qd hb4
   clear hg4 hb4 hwr
   simp only [Act.put,List.getElem_toArray,List.getElem_cons_succ,List.getElem_cons_zero,List.setIfInBounds_toArray,List.set_cons_zero,List.set_cons_succ]
   go_wp2_with fail
   go_roundw
   case rel=>exact ⟨k+j,by omega,by omega,by go_num,Hg4,Hb4⟩
   case measure=>simp [intOf];omega
  ·obtain rfl:k=n:=by omega
   go_wp2_with fail
   go_ret
   exact ⟨_,rfl,Nat.le_refl _,(by rw [←full_all];exact HB.out),Hb.out⟩
end Go.Proofs.YtcnebdjhhfnmoaaGreatDoor
namespace Go.Proofs.YtcnebdjhhfnmoaaGreatDoor
open Go.RowKit
theorem andNot_zero (T S:Nat)(hT:T<65536)(_hS:S<65536):T&&&(65535-S)=0↔∀b,T.testBit b=true→S.testBit b=true:=by
 constructor
 ·intro h b hb
  have hb16:b<16:=by
   rcases Nat.lt_or_ge b 16 with h1|h1
   ·exact h1
   ·have:T<2 ^ b:=Nat.lt_of_lt_of_le (by omega:T<2 ^ 16) (Nat.pow_le_pow_right (by omega) h1)
    rw [Nat.testBit_lt_two_pow this] at hb;cases hb
  have h2:=congrArg (fun n=>n.testBit b) h
  simp only [Nat.testBit_and,Nat.zero_testBit,hb,Bool.true_and] at h2
  have h3:(65535-S).testBit b = !S.testBit b:=by
   rw [show 65535-S=2 ^ 16-(S+1) by omega,Nat.testBit_two_pow_sub_succ (by omega)]
   simp [hb16]
  rw [h3] at h2
  simpa using h2
 ·intro h
  apply Nat.eq_of_testBit_eq
  intro b
  rw [Nat.testBit_and,Nat.zero_testBit]
  by_cases hb:T.testBit b=true
  ·have hs:=h b hb
   have hb16:b<16:=by
    rcases Nat.lt_or_ge b 16 with h1|h1
    ·exact h1
    ·have:T<2 ^ b:=Nat.lt_of_lt_of_le (by omega:T<2 ^ 16) (Nat.pow_le_pow_right (by omega) h1)
     rw [Nat.testBit_lt_two_pow this] at hb;cases hb
   rw [show 65535-S=2 ^ 16-(S+1) by omega,Nat.testBit_two_pow_sub_succ (by omega)]
   simp [hs]
  ·simp [hb]
def OnlyTo (fr:Act)(wd:World):Exit→Act→World→Prop
 | .normal,a,w=>a=fr∧w=wd
 | _,_,_=>False
theorem OnlyTo.here (fr:Act)(wd:World):OnlyTo fr wd .normal fr wd:=⟨rfl,rfl⟩
theorem wp_once {P:Program}{c:Code}{Q:Exit→Act→World→Prop}{a:Act}{w:World}(fr:Act)(wd:World)(h:c.wp P (OnlyTo fr wd) a w)(hK:Q .normal fr wd):c.wp P Q a w:=
 Code.wp_mono (fun e a w h=>by
  cases e with
  | normal=>obtain ⟨rfl,rfl⟩:=h;exact hK
  | _=>exact (h:False).elim) h
def NoneBad (l:List Ins)(k:Nat):Prop:=∀(j:Nat) (x:Ins),j<k→l[j]?=some x→takes x=true→¬Un l x.k j
def UnsPost (l:List Ins)(w:World)(e:Ending)(w':World):Prop:=
 ∃a er:Nat,e=.returned (.agg #[.int .i64 a,.int .i64 er])∧Below w.heap.size w w' ∧
  ((er=0∧a=0∧NoneBad l l.length)∨(er=2∧NoneBad l a∧∃i,l[a]?=some i∧takes i=true∧Un l i.k a))
structure UMem (w wr:World)(g:Nat)(st:List Nat):Prop where
 bk:Bk wr g 196 (u16sC st)
 hg:w.heap.size<g
 ans:Bk wr w.heap.size 53 [.int .i64 0,.int .i64 0]
 bel:Below w.heap.size w wr
theorem UMem.alloc {w wr:World}{g:Nat}{st:List Nat}(h:UMem w wr g st)(o:Obj):UMem w (wr.alloc o) g st:=⟨h.bk.alloc _,h.hg,h.ans.alloc _,h.bel.alloc h.bel.size _⟩
theorem UMem.drew {w wr:World}{g:Nat}{st:List Nat}(h:UMem w wr g st):UMem w wr.drew g st:=⟨h.bk.drew,h.hg,h.ans.drew,h.bel.drew⟩
theorem UMem.kept {w wr w':World}{g:Nat}{st:List Nat}(h:UMem w wr g st)(hb:Below wr.heap.size wr w'):UMem w w' g st:=⟨h.bk.kept hb,h.hg,h.ans.kept hb,h.bel.trans (hb.mono h.bel.size)⟩
theorem u16s_set (st:List Nat)(j v:Nat):(u16sC st).set j (.int .u16 v)=u16sC (st.set j v):=by simp [u16sC,List.map_set]
theorem UMem.set {w wr:World}{g:Nat}{st:List Nat}(h:UMem w wr g st)(j v:Nat):UMem w (wr.setCell ⟨g,j,none⟩ (.int .u16 v)) g (st.set j v):=by
 have hg:=only_set wr g j (.int .u16 v)
 refine ⟨?_,h.hg,h.ans.grown hg (by have:=h.hg;simp;omega),only_below h.bel hg h.bel.size (by have:=h.hg;omega)⟩
 rw [←u16s_set];exact h.bk.set j _
theorem UMem.cell {w wr:World}{g:Nat}{st:List Nat}(h:UMem w wr g st)(j:Nat)(hj:j<st.length):wr.cell? ⟨g,j,none⟩=some (.int .u16 (st.getD j 0:Nat)):=
 h.bk.cell j (by simp [u16sC,List.getD_eq_getElem?_getD,List.getElem?_eq_getElem hj])
theorem upd_cons (st:List Nat)(v:Nat)(tos:List Nat)(tQ:Nat):upd st v (tos++[tQ])=(upd st v tos).set tQ ((upd st v tos).getD tQ 0&&&v):=by
 unfold upd;rw [List.foldl_append];rfl
theorem unstored_any (l:List Ins)(n:Nat)(A:Option Addr)(cp:Nat)(w:World)(hl:l.length=n)(hok:∀i∈l,i.ok)(hr:Rd w 4 n A (l.flatMap Ins.cells))(hn0:0<n)(hn:n≤4096)
  (hin:Inr l) (hrg:∀i∈l,rangeB i=true) :
  Calls Tryz.prog 43 #[.slice A n cp] w (UnsPost l w):=by
 have Hl:=qd hl
 have Hok:=qd hok
 have Hr:=qd hr
 have Hin:=qd hin
 have Hrg:=qd hrg
 clear hl hok hr hin hrg
 go_enter Tryz.func43,Tryz.ntmps43
 go_wp2_with fail
 refine (repeat_any n _ _ hn0 (by omega) (by go_simp) (by simp)).mono ?_
 rintro e w2 ⟨g,rfl,hg,hbk,hb2⟩
 have HM:=qd (show UMem w w2 g (List.replicate n 65535) from ⟨hbk,by simp at hg;omega,(by have:=(Bk.new w 53 #[.int .i64 0,.int .i64 0] rfl).alloc (.cells #[.int .u16 65535] 196);exact this.kept hb2),(((Below.refl _ _).alloc (Nat.le_refl _) _).alloc (by simp) _).trans (hb2.mono (by simp;omega))⟩)
 have hc0:=HM.out.cell 0 (by simp;exact hn0)
 have hf0:=HM.out.bk.fz 0
 clear hg hbk hb2
 go_wp2_with fail
 have HM2:=qd (show UMem w (w2.setCell ⟨g,0,none⟩ (.int .u16 0)) g (stf l 0) from by have:=HM.out.set 0 0;unfold stf;rw [Hl.out];exact this)
 clear HM hc0 hf0
 go_loopw [16] (fun i wr=>∃k:Nat,k≤n∧i=.int .i64 k∧Hid (UMem w wr g (stf l k))∧Hid (NoneBad l k)) (fun i _=>n-(intOf i).toNat)
 case atStart=>exact ⟨0,by omega,rfl,HM2,fun j x hj=>by omega⟩
 case round=>
  obtain ⟨k,hk,rfl,HM,HN⟩:=hrel
  clear HM2
  by_cases hlt:k<n
  ·obtain ⟨x,hx⟩:∃x,l[k]?=some x:=⟨_,List.getElem?_eq_getElem (by have:=Hl.out;omega)⟩
   obtain ⟨b,o,hA,hbl,hcells⟩:=Hr.out.pos (by omega)
   obtain ⟨q0,q1,q2,q3⟩:=four_cells hcells hx
   have hkeep:∀j,wr.cell? ⟨b,j,none⟩=w.cell? ⟨b,j,none⟩:=fun j=>HM.out.bel.cell (p:=⟨b,j,none⟩) hbl
   rw [←hkeep] at q0 q1 q2 q3
   have hxok:=Hok.out x (List.mem_of_getElem? hx)
   have hxr:=Hrg.out x (List.mem_of_getElem? hx)
   have Tk:=qd (fun w=>taken_any x w hxr)
   have Pt:=qd (fun w=>put_any x w hxr)
   have Nx:=qd (fun w=>next_any x k w hxok (by omega))
   obtain ⟨S,hS⟩:∃S,S=(stf l k).getD k 0:=⟨_,rfl⟩
   have hSl:S<65536:=hS▸stf_lt l Hrg.out k k
   obtain ⟨T,hT⟩:∃T,T=takenN x:=⟨_,rfl⟩
   obtain ⟨P,hP⟩:∃P,P=putN x:=⟨_,rfl⟩
   have hTl:T<65536:=hT▸takenN_lt hxr
   have hPl:P<65536:=hP▸putN_lt hxr
   have Hbad:=qd (stf_bad hx hxr)
   rw [←hS,←hT] at Hbad
   rw [←hT] at Tk
   rw [←hP] at Pt
   have Hz:=qd (andNot_zero T S hTl hSl)
   have hD:=u16_andNot_nat T S hTl hSl
   obtain ⟨D,hDd⟩:∃D,D=T&&&(65535-S):=⟨_,rfl⟩
   rw [←hDd] at hD Hz
   have Hx:=qd hx
   have HS:=qd hS
   have HP:=qd hP
   have Hws:=qd (fun tQ hto=>Hin.out k x hx tQ hto)
   have HO:=qd (show bits .or .u16 (S:Int) (P:Int)=((S|||P:Nat):Int) from u16_or_nat S P hSl hPl)
   have hcS:wr.cell? ⟨g,k,none⟩=some (.int .u16 S):=by rw [hS];exact HM.out.cell k (by rw [stf_len,Hl.out];exact hlt)
   obtain ⟨c,t,f,y⟩:=x
   dsimp only at *
   subst hA
   clear hkeep hcells hx hxok hxr hS hT hP hDd
   go_wp2_with fail
   have HMa:=qd (HM.out.alloc (.cells #[.int .u16 c,.int .u8 t,.int .u8 f,.int .u32 y] 76))
   have Hbx:=qd (Bk.new wr 76 #[.int .u16 c,.int .u8 t,.int .u8 f,.int .u32 y] rfl)
   have hsa:wr.heap.size<(wr.alloc (.cells #[.int .u16 c,.int .u8 t,.int .u8 f,.int .u32 y] 76)).heap.size:=by simp
   have hgg:g<wr.heap.size:=HM.out.bk.lt
   clear HM q0 q1 q2 q3 hcS
   revert HMa Hbx hsa hgg
   generalize (wr.alloc (.cells #[.int .u16 c,.int .u8 t,.int .u8 f,.int .u32 y] 76))=wa
   generalize wr.heap.size=gi
   intro HMa Hbx hsa hgg
   clear wr
   have q0:=Hbx.out.cell 0 rfl
   have q1:=Hbx.out.cell 1 rfl
   have q2:=Hbx.out.cell 2 rfl
   have q3:=Hbx.out.cell 3 rfl
   have hcS:wa.cell? ⟨g,k,none⟩=some (.int .u16 S):=by rw [HS.out];exact HMa.out.cell k (by rw [stf_len,Hl.out];exact hlt)
   have hcS1:=(((Below.refl wa.heap.size wa).alloc (Nat.le_refl _) (.cells #[.int .u16 c,.int .u8 t,.int .u8 f,.int .u32 y] 76)).cell (p:=⟨g,k,none⟩) HMa.out.bk.lt).trans hcS
   refine wp_once ?fr ?wd ?reg ?imp
   case reg=>
    go_region_with (go_at_call 83;refine (Tk.out _).mono ?_;rintro e w' ⟨rfl,rfl⟩)
    all_goals exact OnlyTo.here _ _
   case imp=>
    simp only [Act.put,List.getElem_toArray,List.getElem_cons_succ,List.getElem_cons_zero,List.setIfInBounds_toArray,List.set_cons_zero,List.set_cons_succ]
    have HMb:=qd ((HMa.out.alloc (.cells #[.int .u16 c,.int .u8 t,.int .u8 f,.int .u32 y] 76)).drew)
    have Hbb:=qd ((Hbx.out.alloc (.cells #[.int .u16 c,.int .u8 t,.int .u8 f,.int .u32 y] 76)).drew)
    clear q0 q1 q2 q3 hcS hcS1 HMa Hbx hsa
    revert HMb Hbb
    generalize (wa.alloc (.cells #[.int .u16 c,.int .u8 t,.int .u8 f,.int .u32 y] 76)).drew=wb
    intro HMb Hbb
    have q0:=Hbb.out.cell 0 rfl
    have q1:=Hbb.out.cell 1 rfl
    have q2:=Hbb.out.cell 2 rfl
    have q3:=Hbb.out.cell 3 rfl
    by_cases hD0:D=0
    ·have hb0:((D:Int)==0)=true:=by simp;omega
     have hb1:((D:Int) != 0)=false:=by simp;omega
     have Hok2:=qd (Hbad.out.1 (Hz.out.1 hD0))
     clear Hz Hbad hD
     go_wp2_with fail
     refine (Nx.out _).mono ?_
     rintro e wc ⟨A',cp',rfl,hcp',hseg,hbc⟩
     have HMc:=qd (HMb.out.kept hbc)
     have Hbc:=qd (Hbb.out.kept hbc)
     have hgB:=HMb.out.bk.lt
     have hgi:=Hbb.out.lt
     obtain ⟨B,hB⟩:∃B,B=wb.heap.size:=⟨_,rfl⟩
     rw [←hB] at hseg hgB hgi
     have Hseg:=qd hseg
     obtain ⟨ws,hws⟩:∃ws,ws=ways ⟨c,t,f,y⟩ k:=⟨_,rfl⟩
     have Hwsd:=qd hws
     have Hws2:=qd (show ∀tQ∈ws,tQ<l.length∧k<tQ from fun tQ hto=>⟨Hws.out tQ (hws▸hto),ways_gt (hws▸hto)⟩)
     have hm2:ws.length≤2:=by
      rw [hws];unfold ways rel
      rw [List.length_map]
      split
      ·simp
      ·split
       ·simp
       ·split<;>simp
     rw [←hws] at hcp' Hseg ⊢
     obtain ⟨m,hm⟩:∃m,m=ws.length:=⟨_,rfl⟩
     rw [←hm] at hcp' Hseg hm2 ⊢
     have Hm:=qd hm
     clear hbc hseg hB hws hm Hws q0 q1 q2 q3 HMb Hbb hD0 hb0 hb1
     go_wp2_with fail
     go_loopw [35] (fun i wr=>∃q:Nat,q≤m∧i=.int .i64 q∧Hid (UMem w wr g (upd (stf l k) (S|||P) (ws.take q)))∧Hid (Bk wr gi 76 [.int .u16 c,.int .u8 t,.int .u8 f,.int .u32 y])∧Hid (Seg wr B 1 m A' (ints ws))) (fun i _=>m-(intOf i).toNat)
     case atStart=>exact ⟨0,by omega,rfl,HMc,Hbc,Hseg⟩
     case round=>
      obtain ⟨q,hq,rfl,HMx,Hbx,Hsx⟩:=hrel
      clear HMc Hbc Hseg
      by_cases hqm:q<m
      ·obtain ⟨tQ,hto⟩:∃tQ,ws[q]?=some tQ:=⟨_,List.getElem?_eq_getElem (by have:=Hm.out;omega)⟩
       obtain ⟨hton,hkto⟩:=Hws2.out tQ (List.mem_of_getElem? hto)
       rw [Hl.out] at hton
       obtain ⟨b',o',rfl,hBb,hbl',hcw⟩:=Hsx.out.pos (by omega)
       have r0:=hcw q _ (ints_at hto)
       obtain ⟨X,hX⟩:∃X,X=(upd (stf l k) (S|||P) (ws.take q)).getD tQ 0:=⟨_,rfl⟩
       have hlen:(upd (stf l k) (S|||P) (ws.take q)).length=n:=by rw [upd_len,stf_len,Hl.out]
       have hSk:(upd (stf l k) (S|||P) (ws.take q)).getD k 0=S:=by
        rw [upd_get,if_neg,←HS.out]
        intro h
        exact Nat.lt_irrefl _ ((Hws2.out k (List.mem_of_mem_take h)).2)
       have hXl:X<65536:=by
        rw [hX,upd_get]
        have:=stf_lt l Hrg.out k tQ
        split
        ·exact Nat.lt_of_le_of_lt Nat.and_le_left this
        ·exact this
       have hSPl:S|||P<65536:=Nat.or_lt_two_pow (n:=16) (by omega) (by omega)
       have hAnd:bits .and .u16 (X:Int) ((S|||P:Nat):Int)=((X&&&(S|||P):Nat):Int):=u16_and_nat X (S|||P) hXl hSPl
       have hOr:=HO.out
       obtain ⟨V,hV⟩:∃V,V=S|||P:=⟨_,rfl⟩
       rw [←hV] at hAnd hOr
       obtain ⟨Y,hY⟩:∃Y,Y=X&&&V:=⟨_,rfl⟩
       rw [←hY] at hAnd
       have c1:wr.cell? ⟨g,k,none⟩=some (.int .u16 S):=by rw [←hSk];exact HMx.out.cell k (by omega)
       have c2:wr.cell? ⟨g,tQ,none⟩=some (.int .u16 X):=by rw [hX];exact HMx.out.cell tQ (by omega)
       have fz:=HMx.out.bk.fz tQ
       have hal:=(Below.refl wr.heap.size wr).alloc (Nat.le_refl _) (.cells #[.int .u16 c,.int .u8 t,.int .u8 f,.int .u32 y] 76)
       have c1':=(hal.cell (p:=⟨g,k,none⟩) HMx.out.bk.lt).trans c1
       have c2':=(hal.cell (p:=⟨g,tQ,none⟩) HMx.out.bk.lt).trans c2
       have fz':=(HMx.out.bk.alloc (.cells #[.int .u16 c,.int .u8 t,.int .u8 f,.int .u32 y] 76)).fz tQ
       have q0:=Hbx.out.cell 0 rfl
       have q1:=Hbx.out.cell 1 rfl
       have q2:=Hbx.out.cell 2 rfl
       have q3:=Hbx.out.cell 3 rfl
       have hnext:upd (stf l k) (S|||P) (ws.take (q+1))=(upd (stf l k) (S|||P) (ws.take q)).set tQ Y:=by
        rw [take_snoc' ws q tQ hto,upd_cons,hY,hX,hV]
       have Hend:=qd (show UMem w ((wr.alloc (.cells #[.int .u16 c,.int .u8 t,.int .u8 f,.int .u32 y] 76)).setCell ⟨g,tQ,none⟩ (.int .u16 Y)) g (upd (stf l k) (S|||P) (ws.take (q+1))) from by
        rw [hnext];exact (HMx.out.alloc _).set tQ Y)
       have HXd:=qd hX
       have HVd:=qd hV
       have HYd:=qd hY
       clear hal hcw hX hlen hSk hXl hSPl hV hY hnext hto
       go_wp2_with fail
       refine wp_once ?fr2 ?wd2 ?reg2 ?imp2
       case reg2=>
        go_region_with (go_at_call 84;refine (Pt.out _).mono ?_;rintro e w' ⟨rfl,rfl⟩)
        all_goals exact OnlyTo.here _ _
       case imp2=>
        clear c1 c2 fz c1' c2' fz' q0 q1 q2 q3 hAnd hOr r0
        go_wp2_with fail
        go_roundw
        case rel=>exact ⟨q+1,by omega,by go_num,Hend.out.drew,(((Hbx.out.alloc _).grown (only_set _ g tQ _) (by simp;omega)).drew),((Hsx.out.below ((Below.refl _ _).alloc (Nat.le_refl _) _)).grown (only_set _ g tQ _) (by omega)).below ((Below.refl _ _).drew)⟩
        case measure=>simp [intOf];omega
      ·obtain rfl:q=m:=by omega
       have HE:=qd (show UMem w wr g (stf l (k+1)) from by
        have h1:=HMx.out
        rw [List.take_of_length_le (by have:=Hm.out;omega),Hwsd.out,HS.out,HP.out,←stf_step Hx.out] at h1
        exact h1)
       have HN1:=qd (show NoneBad l (k+1) from fun j x hj hx ht=>by
        rcases (by omega:j<k∨j=k) with h|rfl
        ·exact HN.out j x h hx ht
        ·rw [Hx.out] at hx
         cases hx
         exact Hok2.out ht)
       clear Hwsd HMx
       go_wp2_with fail
       go_roundw
       case rel=>exact ⟨k+1,by omega,by go_num,HE,HN1⟩
       case measure=>simp [intOf];omega
    ·have hb0:((D:Int)==0)=false:=by simp;omega
     have hb1:((D:Int) != 0)=true:=by simp;omega
     have Hno:=qd (fun h=>hD0 (Hz.out.2 (Hbad.out.2 h)))
     have HA2:=(HMb.out.ans.set 0 (.int .i64 k)).set 1 (.int .i64 2)
     have a0:=HA2.cell 0 rfl
     have a1:=HA2.cell 1 rfl
     have b0:=HMb.out.ans.cell 0 rfl
     have b1:=HMb.out.ans.cell 1 rfl
     have f0:=HMb.out.ans.fz 0
     have f1:=HMb.out.ans.fz 1
     have Hfin:=qd (only_below (only_below HMb.out.bel (only_set wb w.heap.size 0 (.int .i64 k)) HMb.out.bel.size (Nat.le_refl _)) (only_set (wb.setCell ⟨w.heap.size,0,none⟩ (.int .i64 k)) w.heap.size 1 (.int .i64 2)) (Nat.le_trans HMb.out.bel.size (only_set _ _ _ _).size) (Nat.le_refl _))
     clear Hz Hbad hD hD0 HA2
     go_wp2_with fail
     refine bodyPost_ret (v:=.agg #[.int .i64 k,.int .i64 2]) (by simp [results,Tryz.results43,go_sem,a0,a1]) rfl ⟨k,2,rfl,Hfin.out,.inr ⟨rfl,HN.out,⟨c,t,f,y⟩,Hx.out,?_⟩⟩
     by_cases ht:takes ⟨c,t,f,y⟩=true
     ·exact ⟨ht,Classical.byContradiction fun h=>Hno.out fun _=>h⟩
     ·exact absurd (fun h=>absurd h ht) Hno.out
  ·obtain rfl:k=n:=by omega
   have HA2:=(HM.out.ans.set 0 (.int .i64 0)).set 1 (.int .i64 0)
   have a0:=HA2.cell 0 rfl
   have a1:=HA2.cell 1 rfl
   have b0:=HM.out.ans.cell 0 rfl
   have b1:=HM.out.ans.cell 1 rfl
   have f0:=HM.out.ans.fz 0
   have f1:=HM.out.ans.fz 1
   clear HA2
   go_wp2_with fail
   have Hfin:=qd (only_below (only_below HM.out.bel (only_set wr w.heap.size 0 (.int .i64 0)) HM.out.bel.size (Nat.le_refl _)) (only_set (wr.setCell ⟨w.heap.size,0,none⟩ (.int .i64 0)) w.heap.size 1 (.int .i64 0)) (Nat.le_trans HM.out.bel.size (only_set _ _ _ _).size) (Nat.le_refl _))
   refine bodyPost_ret (v:=.agg #[.int .i64 0,.int .i64 0]) (by simp [results,Tryz.results43,go_sem,a0,a1]) rfl ⟨0,0,rfl,Hfin.out,.inl ⟨rfl,rfl,by rw [Hl.out];exact HN.out⟩⟩
end Go.Proofs.YtcnebdjhhfnmoaaGreatDoor
namespace Go.Proofs.YtcnebdjhhfnmoaaGreatDoor
open Go.RowKit
def ChkPost (l:List Ins)(w:World)(e:Ending)(w':World):Prop:=
 ∃a er:Nat,e=.returned (.agg #[.int .i64 a,.int .i64 er])∧Chk l a er∧Below w.heap.size w w'
theorem agg_below {w wb:World}{v0 v1:Value}(h:Below w.heap.size w wb):Below w.heap.size w ((wb.setCell ⟨w.heap.size,0,none⟩ v0).setCell ⟨w.heap.size,1,none⟩ v1):=
 only_below (only_below h (only_set wb w.heap.size 0 v0) h.size (Nat.le_refl _)) (only_set (wb.setCell ⟨w.heap.size,0,none⟩ v0) w.heap.size 1 v1) (Nat.le_trans h.size (only_set _ _ _ _).size) (Nat.le_refl _)
theorem check_none (n:Nat)(A:Option Addr)(cp:Nat)(w:World)(l:List Ins)(hl:l.length=n)(hn:n=0):Calls Tryz.prog 16 #[.slice A n cp] w (ChkPost l w):=by
 subst hn
 have H:=qd (Chk.none hl)
 clear hl
 go_enter Tryz.func16,Tryz.ntmps16
 go_wp2_with fail
 exact bodyPost_ret (v:=.agg #[.int .i64 0,.int .i64 203]) (by simp [results,Tryz.results16,go_sem]) rfl ⟨0,203,rfl,H.out,one_below _ _⟩
theorem check_many (n:Nat)(A:Option Addr)(cp:Nat)(w:World)(l:List Ins)(hl:l.length=n)(hn:4096<n)(_hm:n≤maxLen):Calls Tryz.prog 16 #[.slice A n cp] w (ChkPost l w):=by
 have H:=qd (Chk.many (l:=l) (by omega))
 have h0:((n:Int)==0)=false:=by simp;omega
 have h1:(4096:Int)<(n:Int):=by omega
 clear hl
 go_enter Tryz.func16,Tryz.ntmps16
 go_wp2_with fail
 exact bodyPost_ret (v:=.agg #[.int .i64 4096,.int .i64 205]) (by simp [results,Tryz.results16,go_sem]) rfl ⟨4096,205,rfl,H.out,one_below _ _⟩
structure CMem (w wr:World):Prop where
 ans:Bk wr w.heap.size 53 [.int .i64 0,.int .i64 0]
 bel:Below w.heap.size w wr
theorem CMem.alloc {w wr:World}(h:CMem w wr)(o:Obj):CMem w (wr.alloc o):=⟨h.ans.alloc _,h.bel.alloc h.bel.size _⟩
theorem CMem.kept {w wr w':World}(h:CMem w wr)(hb:Below wr.heap.size wr w'):CMem w w':=⟨h.ans.kept hb,h.bel.trans (hb.mono h.bel.size)⟩
theorem check_some (l:List Ins)(n:Nat)(A:Option Addr)(cp:Nat)(w:World)(hl:l.length=n)(hok:∀i∈l,i.ok)(hr:Rd w 4 n A (l.flatMap Ins.cells))(hn0:0<n)(hn:n≤4096) :
  Calls Tryz.prog 16 #[.slice A n cp] w (ChkPost l w):=by
 have Hl:=qd hl
 have Hok:=qd hok
 have Hr:=qd hr
 have h0:((n:Int)==0)=false:=by simp;omega
 have h1:¬(4096:Int)<(n:Int):=by omega
 clear hl hok hr
 go_enter Tryz.func16,Tryz.ntmps16
 go_wp2_with fail
 have HM0:=qd (show CMem w (w.alloc (.cells #[.int .i64 0,.int .i64 0] 53)) from ⟨Bk.new _ _ _ rfl,one_below _ _⟩)
 clear h0 h1
 go_loopw [17] (fun i wr=>∃k:Nat,k≤n∧i=.int .i64 k∧Hid (CMem w wr)∧Hid (∀(j:Nat) (x:Ins),j<k→l[j]?=some x→alone x (l.length-j-1)=0)) (fun i _=>n-(intOf i).toNat)
 case atStart=>exact ⟨0,by omega,rfl,HM0,fun j x hj=>by omega⟩
 case round=>
  obtain ⟨k,hk,rfl,HM,HN⟩:=hrel
  clear HM0
  by_cases hlt:k<n
  ·obtain ⟨x,hx⟩:∃x,l[k]?=some x:=⟨_,List.getElem?_eq_getElem (by have:=Hl.out;omega)⟩
   obtain ⟨b,o,hA,hbl,hcells⟩:=Hr.out.pos (by omega)
   obtain ⟨q0,q1,q2,q3⟩:=four_cells hcells hx
   have hkeep:∀j,wr.cell? ⟨b,j,none⟩=w.cell? ⟨b,j,none⟩:=fun j=>HM.out.bel.cell (p:=⟨b,j,none⟩) hbl
   rw [←hkeep] at q0 q1 q2 q3
   have Al:=qd (fun w=>alone_any x k n w (Hok.out x (List.mem_of_getElem? hx)) hlt (by omega))
   have Hx:=qd hx
   obtain ⟨E,hE⟩:∃E,E=alone x (n-k-1):=⟨_,rfl⟩
   have hEl:E<300:=hE▸alone_lt _ _
   rw [←hE] at Al
   have HE:=qd hE
   obtain ⟨c,t,f,y⟩:=x
   dsimp only at *
   subst hA
   clear hkeep hcells hx hE
   go_wp2_with fail
   refine (Al.out _).mono ?_
   rintro e w2 ⟨rfl,hb2⟩
   have HM2:=qd ((HM.out.alloc _).kept hb2)
   clear HM hb2 q0 q1 q2 q3
   by_cases hE0:E=0
   ·have e1:((E:Int) != 0)=false:=by simp;omega
    have e2:((E:Int)==0)=true:=by simp;omega
    have HN1:=qd (show ∀(j:Nat) (x:Ins),j<k+1→l[j]?=some x→alone x (l.length-j-1)=0 from fun j x hj hx=>by
     rcases (by omega:j<k∨j=k) with h|rfl
     ·exact HN.out j x h hx
     ·rw [Hx.out] at hx
      cases hx
      rw [Hl.out,←HE.out];exact hE0)
    clear hE0
    go_wp2_with fail
    go_roundw
    case rel=>exact ⟨k+1,by omega,by go_num,HM2,HN1⟩
    case measure=>simp [intOf];omega
   ·have e1:((E:Int) != 0)=true:=by simp;omega
    have e2:((E:Int)==0)=false:=by simp;omega
    have H:=qd (Chk.each k ⟨c,t,f,y⟩ E (by have:=Hl.out;omega) (by have:=Hl.out;omega) HN.out Hx.out (by rw [Hl.out];exact HE.out.symm) hE0)
    have HA2:=(HM2.out.ans.set 0 (.int .i64 k)).set 1 (.int .i64 E)
    have a0:=HA2.cell 0 rfl
    have a1:=HA2.cell 1 rfl
    have b0:=HM2.out.ans.cell 0 rfl
    have b1:=HM2.out.ans.cell 1 rfl
    have f0:=HM2.out.ans.fz 0
    have f1:=HM2.out.ans.fz 1
    clear HA2 hE0
    go_wp2_with fail
    exact bodyPost_ret (v:=.agg #[.int .i64 k,.int .i64 E]) (by simp [results,Tryz.results16,go_sem,a0,a1]) rfl ⟨k,E,rfl,H.out,agg_below HM2.out.bel⟩
  ·obtain rfl:k=n:=by omega
   have Hall:=qd (show ∀(j:Nat) (x:Ins),l[j]?=some x→alone x (l.length-j-1)=0 from fun j x hx=>HN.out j x (by have:=(List.getElem?_eq_some_iff.1 hx).1;have:=Hl.out;omega) hx)
   obtain ⟨p,rfl⟩:∃p,k=p+1:=⟨k-1,by omega⟩
   obtain ⟨x,hx⟩:∃x,l[p]?=some x:=⟨_,List.getElem?_eq_getElem (by have:=Hl.out;omega)⟩
   obtain ⟨b,o,hA,hbl,hcells⟩:=Hr.out.pos (by omega)
   obtain ⟨q0,q1,q2,q3⟩:=four_cells hcells hx
   have hkeep:∀j,wr.cell? ⟨b,j,none⟩=w.cell? ⟨b,j,none⟩:=fun j=>HM.out.bel.cell (p:=⟨b,j,none⟩) hbl
   rw [←hkeep] at q0 q1 q2 q3
   have Cl:=qd (fun w=>class_any x.c w (Hok.out x (List.mem_of_getElem? hx)).1)
   have Uns:=qd (fun (h6:x.c%8=6)=>unstored_any l (p+1) A cp wr Hl.out Hok.out (Hr.out.below HM.out.bel) (by omega) hn
    (inr_of Hall.out (fun y hy=>by rw [Hl.out] at hy;simp only [Nat.add_sub_cancel] at hy;rw [hx] at hy;cases hy;exact h6)) (fun i hi=>by
     obtain ⟨j,hj⟩:=List.getElem?_of_mem hi
     exact (alone_zero.1 (Hall.out j i hj)).2.2))
   have Hx:=qd (show l[l.length-1]?=some x by rw [Hl.out];exact hx)
   obtain ⟨c,t,f,y⟩:=x
   dsimp only at *
   obtain ⟨r,hr⟩:∃r,r=c%8:=⟨_,rfl⟩
   rw [←hr] at Cl Uns
   have HR:=qd hr
   subst hA
   clear hkeep hcells hx hr
   by_cases h6:r=6
   ·subst h6
    have Uns2:=qd (Uns.out rfl)
    clear Uns
    go_wp2_with fail
    refine (Cl.out _).mono ?_
    rintro e w' ⟨rfl,rfl⟩
    go_wp2_with fail
    refine Uns2.out.mono ?_
    rintro e w3 ⟨a,er,rfl,hb3,hor⟩
    have HM3:=qd (HM.out.kept hb3)
    have H:=qd (show Chk l a er from by
     have hends:∀(x:Ins),l[l.length-1]?=some x→x.c%8=6:=fun x hx=>by rw [Hx.out] at hx;cases hx;exact HR.out.symm
     have hl0:=Hl.out
     rcases hor with ⟨rfl,rfl,hnb⟩|⟨rfl,hnb,i,hi,ht,hu⟩
     ·exact Chk.good ⟨by omega,by omega,Hall.out,hends,fun a i hi ht=>hnb a i (List.getElem?_eq_some_iff.1 hi).1 hi ht⟩
     ·exact Chk.scr a i (by omega) (by omega) Hall.out hends hnb hi ht hu)
    have HA2:=(HM3.out.ans.set 0 (.int .i64 a)).set 1 (.int .i64 er)
    have a0:=HA2.cell 0 rfl
    have a1:=HA2.cell 1 rfl
    have b0:=HM3.out.ans.cell 0 rfl
    have b1:=HM3.out.ans.cell 1 rfl
    have f0:=HM3.out.ans.fz 0
    have f1:=HM3.out.ans.fz 1
    clear HA2 hor hb3 q0 q1 q2 q3
    go_wp2_with fail
    exact bodyPost_ret (v:=.agg #[.int .i64 a,.int .i64 er]) (by simp [results,Tryz.results16,go_sem,a0,a1]) rfl ⟨a,er,rfl,H.out,agg_below HM3.out.bel⟩
   ·have e1:((r:Int) != 6)=true:=by simp;omega
    have e2:((r:Int)==6)=false:=by simp;omega
    have H:=qd (show Chk l p 209 from by
     have:=Chk.ends ⟨c,t,f,y⟩ (by have:=Hl.out;omega) (by have:=Hl.out;omega) Hall.out Hx.out (by show c%8≠6;rw [←HR.out];exact h6)
     rw [Hl.out] at this;exact this)
    have HA2:=(HM.out.ans.set 0 (.int .i64 p)).set 1 (.int .i64 209)
    have a0:=HA2.cell 0 rfl
    have a1:=HA2.cell 1 rfl
    have b0:=HM.out.ans.cell 0 rfl
    have b1:=HM.out.ans.cell 1 rfl
    have f0:=HM.out.ans.fz 0
    have f1:=HM.out.ans.fz 1
    clear HA2 h6 Uns
    go_wp2_with fail
    refine (Cl.out _).mono ?_
    rintro e w' ⟨rfl,rfl⟩
    go_wp2_with fail
    exact bodyPost_ret (v:=.agg #[.int .i64 p,.int .i64 209]) (by simp [results,Tryz.results16,go_sem,a0,a1]) rfl ⟨p,209,rfl,H.out,agg_below HM.out.bel⟩
theorem check_any (l:List Ins)(n:Nat)(A:Option Addr)(cp:Nat)(w:World)(hl:l.length=n)(hok:∀i∈l,i.ok)(hr:Rd w 4 n A (l.flatMap Ins.cells))(hm:n≤maxLen) :
  Calls Tryz.prog 16 #[.slice A n cp] w (ChkPost l w):=by
 by_cases h0:n=0
 ·exact check_none n A cp w l hl h0
 ·by_cases h1:n≤4096
  ·exact check_some l n A cp w hl hok hr (by omega) h1
  ·exact check_many n A cp w l hl (by omega) hm
end Go.Proofs.YtcnebdjhhfnmoaaGreatDoor
namespace Go.Proofs.YtcnebdjhhfnmoaaGreatDoor
open Go.RowKit
def bools (l:List Bool):List Value:=l.map Value.bool
theorem bools_set (l:List Bool)(j:Nat)(v:Bool):(bools l).set j (.bool v)=bools (l.set j v):=by simp [bools,List.map_set]
structure RMem (w wr:World)(g:Nat)(rs:List Bool):Prop where
 bk:Bk wr g 4 (bools rs)
 hg:w.heap.size≤g
 bel:Below w.heap.size w wr
theorem RMem.alloc {w wr:World}{g:Nat}{rs:List Bool}(h:RMem w wr g rs)(o:Obj):RMem w (wr.alloc o) g rs:=⟨h.bk.alloc _,h.hg,h.bel.alloc h.bel.size _⟩
theorem RMem.kept {w wr w':World}{g:Nat}{rs:List Bool}(h:RMem w wr g rs)(hb:Below wr.heap.size wr w'):RMem w w' g rs:=⟨h.bk.kept hb,h.hg,h.bel.trans (hb.mono h.bel.size)⟩
theorem RMem.set {w wr:World}{g:Nat}{rs:List Bool}(h:RMem w wr g rs)(j:Nat)(v:Bool):RMem w (wr.setCell ⟨g,j,none⟩ (.bool v)) g (rs.set j v):=by
 refine ⟨?_,h.hg,only_below h.bel (only_set wr g j (.bool v)) h.bel.size h.hg⟩
 rw [←bools_set];exact h.bk.set j _
theorem RMem.cell {w wr:World}{g:Nat}{rs:List Bool}(h:RMem w wr g rs)(j:Nat)(hj:j<rs.length):wr.cell? ⟨g,j,none⟩=some (.bool (rs.getD j false)):=
 h.bk.cell j (by simp [bools,List.getD_eq_getElem?_getD,List.getElem?_eq_getElem hj])
end Go.Proofs.YtcnebdjhhfnmoaaGreatDoor
namespace Go.Proofs.YtcnebdjhhfnmoaaGreatDoor
open Go.RowKit
def ofClass (l:List Ins)(q:Nat):Nat:=(l.filter fun i=>i.c%8==q).length
def counts (l:List Ins):List Nat:=[ofClass l 0,ofClass l 1,ofClass l 2,ofClass l 3,ofClass l 4,ofClass l 5,ofClass l 6,ofClass l 7]
theorem clone_nil (n:Nat)(cp:Nat)(w:World):Calls Tryz.prog 63 #[.slice none n cp] w fun e w'=>e=.returned (.slice none 0 0)∧w=w':=by
 have hnil:=fun (w:World) (n c:Nat)=>Lib.run_eql_slice_nil (P:=Tryz.prog) w 47 76 none n c 0 0 Tryz.underlying47
 go_enter Tryz.func63,Tryz.ntmps63
 go_wp2_with fail
 go_ret
 exact ⟨rfl,rfl⟩
def ClonePost (l:List Ins)(w:World)(e:Ending)(w':World):Prop:=
 ∃A cp,e=.returned (.slice A l.length cp)∧Seg w' w.heap.size 4 l.length A (l.flatMap Ins.cells)∧Below w.heap.size w w'
theorem cells_len (l:List Ins):(l.flatMap Ins.cells).length=l.length*4:=by
 induction l with
 | nil=>rfl
 | cons i l ih=>simp only [List.flatMap_cons,List.length_append,List.length_cons,ih,Ins.cells];simp;omega
theorem cells_all (l:List Ins):∀u∈l.flatMap Ins.cells,u.oneCell'=true:=by
 intro u hu
 obtain ⟨i,_,hi⟩:=List.mem_flatMap.1 hu
 exact cells_one i u hi
theorem clone_some (l:List Ins)(n:Nat)(a:Addr)(cp:Nat)(w:World)(hl:l.length=n)(hr:Rd w 4 n (some a) (l.flatMap Ins.cells))(hn:n≤65536) :
  Calls Tryz.prog 63 #[.slice (some a) n cp] w (ClonePost l w):=by
 obtain ⟨i0,hi,hz0,hz1,hz2⟩:=info_parts infoIns
 have Hl:=qd hl
 have Hcell:=qd (show ∀j u,(l.flatMap Ins.cells)[j]?=some u→w.cell? (a.add j)=some u from fun j u hu=>by
  rcases Nat.eq_zero_or_pos n with h0|h0
  ·have:=(List.getElem?_eq_some_iff.1 hu).1
   rw [cells_len,hl,h0] at this;omega
  ·obtain ⟨b,o,he,_,hc⟩:=hr.pos h0
   cases he
   rw [show (⟨b,o,none⟩:Addr).add j=⟨b,o+j,none⟩ by unfold Addr.add;split<;>simp_all]
   exact hc j u hu)
 have Hblk:=qd (show 0<n→a.block<w.heap.size∧a.spot=none from fun h0=>by
  obtain ⟨b,o,he,h1,hc⟩:=hr.pos h0
  cases he
  exact ⟨h1,rfl⟩)
 clear hl hr
 have hnil:=fun (w:World) (a:Addr) (n c:Nat)=>Lib.run_eql_slice_nil (P:=Tryz.prog) w 47 76 (some a) n c 0 0 Tryz.underlying47
 go_enter Tryz.func63,Tryz.ntmps63
 have Hown:=qd (World.ownsRow_lit (base:=w.heap.size) (e:=76) (size:=4) w #[] 0 (Nat.le_refl _) (by unfold maxLen;omega) rfl)
 have Hc2:=qd (show ∀j u,(l.flatMap Ins.cells)[j]?=some u→(w.alloc (.cells #[] 76)).cell? (a.add j)=some u from fun j u hu=>by
  have h1:=Hcell.out j u hu
  have h2:=(Hblk.out (by
   rcases Nat.eq_zero_or_pos n with h0|h0
   ·have:=(List.getElem?_eq_some_iff.1 hu).1
    rw [cells_len,Hl.out,h0] at this;omega
   ·exact h0)).1
  rw [←h1]
  exact ((Below.refl w.heap.size w).alloc (Nat.le_refl _) _).cell (p:=a.add j) (by unfold Addr.add;split<;>exact h2))
 have hlen:=cells_len l
 rw [Hl.out] at hlen
 have HB1:=qd (one_below w (.cells #[] 76))
 go_wp2_with (at_builtin;refine wpList_append_own _ rfl (.tmp 5) (.tmp 6) 47 rfl w.heap.size 76 i0 _ 4 8 Tryz.underlying47 hi hz0 hz1 hz2 rfl (by decide) _ 0 [] rfl Hown.out a n cp (l.flatMap Ins.cells) rfl hlen Hc2.out (cells_all l) (by unfold maxLen;omega) (by omega) HB1.out.size ?_;intro v' w4 hown' hgrow _;obtain ⟨A',c',rfl,hnc',Hseg⟩:=own_seg hown';clear hown')
 go_ret
 rw [Nat.zero_add] at *
 exact ⟨A',c',(by rw [Hl.out];rfl),(by rw [Hl.out];exact Hseg),HB1.out.grown hgrow HB1.out.size (fun k hk=>by cases hk;exact Nat.le_refl _)⟩
theorem clone_any (l:List Ins)(n:Nat)(A:Option Addr)(cp:Nat)(w:World)(hl:l.length=n)(hr:Rd w 4 n A (l.flatMap Ins.cells))(hn:n≤65536) :
  Calls Tryz.prog 63 #[.slice A n cp] w (ClonePost l w):=by
 cases A with
 | none=>
  obtain rfl:n=0:=by
   rcases hr.at_ with h|⟨b,o,h,_⟩
   ·exact h
   ·cases h
  obtain rfl:l=[]:=List.eq_nil_of_length_eq_zero hl
  refine (clone_nil 0 cp w).mono ?_
  rintro e w' ⟨rfl,rfl⟩
  exact ⟨none,0,rfl,Seg.nil _ _ _ _,Below.refl _ _⟩
 | some a=>exact clone_some l n a cp w hl hr hn
end Go.Proofs.YtcnebdjhhfnmoaaGreatDoor
