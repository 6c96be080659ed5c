/- A drawn region's steps, their stock arguments filled in. -/
import Derived.Deep.RegionHeld3
import Derived.WalkKit
import Derived.Lib.Hide
import Derived.Laws.BitsAllLaws
import Derived.Lib.BitFns
import Derived.Test.YtcnebdjhhfnmoaaGreatDoorProg
import Derived.WalkSpells
import Derived.Laws.ShiftsVarLaws
import Derived.IntWalk
import Derived.Deep.QuietTactic
import Derived.BigQuiet
import Derived.Below
import Derived.Laws.OwnMore
import Derived.Deep.AppendLies
import Derived.Deep.Onto
import Derived.OwnWalk
import Derived.Laws.Rows
import Derived.Laws.Tables
import Derived.LoopTactic
import Derived.Lib.ItoaNum
import Derived.Lib.Join
import Derived.Lib.Split
import Derived.Lib.IndexMore
import Derived.Lib.Strings
import Derived.Lib.SplitLaws
import Derived.Lib.IndexBytes
set_option maxHeartbeats 32000000
set_option maxRecDepth 100000
namespace Go.Proofs.YtcnebdjhhfnmoaaGreatDoor
theorem tkH {P:Program}{ops:Array Oper}{Q:Exit→Act→World→Prop}{md:Region.Mode}{S:World→Prop}{i:Nat}{oi:Oper}{v:Value}{fuel:Nat}{listed:Array Bool}{a:Act}{w:World}
  (hi:ops[i]?=some oi:=by first|(simp only [List.getElem?_toArray,List.getElem?_cons_succ,List.getElem?_cons_zero]<;>rfl)|rfl)
  (hs:Region.noSelect ops=true:=by kernel_rfl) (hf:Region.free md ops listed i=true:=by kernel_rfl) (hr:(Region.ready md ops listed).contains i=true:=by kernel_rfl)
  (hQ:∀c a w,Q (.panic c) (a.put oi.dst v) w→Q (.panic c) a w:=by exact fun _ _ _ h=>h) (y:YieldsIf P ops S oi v a:=by exact Or.inl ⟨by rfl,by intro w hSw;(try dsimp only at hSw);go_simp<;>with_reducible rfl⟩) (s:S w)
  (h:wpAnyH P md ops Q S fuel (listed.setIfInBounds i true) (a.put oi.dst v) w):wpAnyH P md ops Q S (fuel+1) listed a w:=wpAnyH_take hi hs hf hr hQ y s h
theorem crH {P:Program}{ops:Array Oper}{Q:Exit→Act→World→Prop}{md:Region.Mode}{S:World→Prop}{fuel:Nat}{listed:Array Bool}{a:Act}{w:World}{i:Nat}{o:Oper}{rs:List Nat}
  (ho:ops[i]?=some o:=by first|(simp only [List.getElem?_toArray,List.getElem?_cons_succ,List.getElem?_cons_zero]<;>rfl)|rfl)
  (k:∀K':Act→World→Prop,Shut (∀a w,S w→(S w→wpAnyH P md ops Q S fuel (listed.setIfInBounds i true) a w)→K' a w)→if Region.wanted o (yielded ops a.tmps)=true then Oper.wp P o a w K' Q else K' (a.put o.dst undef) w)
  (r:AllReadyH P md ops Q S fuel listed a w rs):AllReadyH P md ops Q S fuel listed a w (i::rs):=AllReadyH.cons ho k r
theorem pA {α:Type}{xs:List α}{i:Nat}{a:α}:xs.toArray.setIfInBounds i a=(xs.set i a).toArray:=List.setIfInBounds_toArray ..
theorem pB {α:Type}{xs:List α}{a b:α}:(b::xs).set 0 a=a::xs:=List.set_cons_zero
theorem pC {α:Type}{xs:List α}{i:Nat}{a b:α}:(b::xs).set (i+1) a=b::xs.set i a:=List.set_cons_succ
theorem qd {p:Prop}(h:p):Go.RowKit.Hid p:=Lib.hid h
end Go.Proofs.YtcnebdjhhfnmoaaGreatDoor
namespace Go.Proofs.YtcnebdjhhfnmoaaGreatDoor
def codesL:List Nat:=[32,0,96,128,1,97,129,2,3,6,22,7,135,5,132,4,12,20,28,36,44,52,60,68,76,84,92,100,108,116,124,164,172,21,29,37,45,53,61,69,77]
def knownB (n:Nat):Bool:=codesL.contains n
theorem known_false (n:Nat)(h:¬(n=32∨n=0∨n=96∨n=128∨n=1∨n=97∨n=129∨n=2∨n=3∨n=6∨n=22∨n=7∨n=135∨n=5∨n=132∨n=4∨n=12∨n=20∨n=28∨n=36∨n=44∨n=52∨n=60∨n=68∨n=76∨n=84∨n=92∨n=100∨n=108∨n=116∨n=124∨n=164∨n=172∨n=21∨n=29∨n=37∨n=45∨n=53∨n=61∨n=69∨n=77)):knownB n=false:=by
 rw [←Bool.not_eq_true]
 simp only [knownB,codesL,List.contains_iff_mem,List.mem_cons,List.not_mem_nil,or_false]
 exact h
structure Ins where
 c:Nat
 t:Nat
 f:Nat
 k:Nat
def Ins.ok (i:Ins):Prop:=i.c<65536∧i.t<256∧i.f<256∧i.k<4294967296
def Ins.bs (i:Ins):List Nat:=[i.c%256,i.c / 256,i.t,i.f,i.k%256,i.k / 256%256,i.k / 65536%256,i.k / 16777216]
end Go.Proofs.YtcnebdjhhfnmoaaGreatDoor
namespace Go.Proofs.YtcnebdjhhfnmoaaGreatDoor
open Go.RowKit
theorem ret_bool {a b:Bool}(h:a=b):Ending.returned (.bool a)=.returned (.bool b):=by rw [h]
theorem ret_int {k:IntKind}{a b:Int}(h:a=b):Ending.returned (.int k a)=.returned (.int k b):=by rw [h]
theorem clear8 (n:Nat)(h:n<65536):n&&&65527=n-8*(n / 8%2):=by
 have h1:=Nat.and_div_two_pow (a:=n) (b:=65527) (n:=4)
 have h2:=Nat.and_mod_two_pow (a:=n) (b:=65527) (n:=4)
 simp only [Nat.reducePow,Nat.reduceDiv,Nat.reduceMod] at h1 h2
 have e1:=Nat.and_two_pow_sub_one_eq_mod (n / 16) 12
 have e2:=Nat.and_two_pow_sub_one_eq_mod (n%16) 3
 simp only [Nat.reducePow,Nat.reduceSub] at e1 e2
 rw [e1] at h1
 rw [e2] at h2
 omega
theorem andNot8 (n:Nat)(h:n<65536):bits .andNot .u16 (n:Int) 8=((n-8*(n / 8%2):Nat):Int):=by
 have e:=u16_andNot_nat n 8 h (by omega)
 rw [←clear8 n h]
 exact e
theorem hit_n {n c:Nat}(h:knownB c=true)(h2:((n:Int)==(c:Int))=true):true=knownB n:=by
 have e:n=c:=by
  simp at h2
  omega
 rw [e,h]
theorem hit_q {n q c:Nat}(hq:q=n-8*(n / 8%2))(h:knownB c=true)(h1:knownB (c+8)=true)(h2:((q:Int)==(c:Int))=true):true=knownB n:=by
 have e:q=c:=by
  simp at h2
  omega
 rcases (by omega:n=c∨n=c+8) with rfl|rfl
 ·rw [h]
 ·rw [h1]
theorem known_any (n:Nat)(w:World)(h:n<65536):Calls Tryz.prog 78 #[.int .u16 n] w fun e w'=>e=.returned (.bool (knownB n))∧w=w':=by
 obtain ⟨q,hq⟩:∃q,q=n-8*(n / 8%2):=⟨_,rfl⟩
 have hb:=andNot8 n h
 rw [←hq] at hb
 have H:=qd hq
 clear hq
 go_enter Tryz.func78,Tryz.ntmps78
 go_wp2
 all_goals
  go_ret
  refine ⟨ret_bool ?_,rfl⟩
  first
   | exact hit_n (by rfl) ‹((n:Int)==32)=true›
   | exact hit_n (by rfl) ‹((n:Int)==0)=true›
   | exact hit_n (by rfl) ‹((n:Int)==96)=true›
   | exact hit_n (by rfl) ‹((n:Int)==128)=true›
   | exact hit_n (by rfl) ‹((n:Int)==1)=true›
   | exact hit_n (by rfl) ‹((n:Int)==97)=true›
   | exact hit_n (by rfl) ‹((n:Int)==129)=true›
   | exact hit_n (by rfl) ‹((n:Int)==2)=true›
   | exact hit_n (by rfl) ‹((n:Int)==3)=true›
   | exact hit_n (by rfl) ‹((n:Int)==6)=true›
   | exact hit_n (by rfl) ‹((n:Int)==22)=true›
   | exact hit_n (by rfl) ‹((n:Int)==7)=true›
   | exact hit_n (by rfl) ‹((n:Int)==135)=true›
   | exact hit_n (by rfl) ‹((n:Int)==5)=true›
   | exact hit_n (by rfl) ‹((n:Int)==132)=true›
   | exact hit_q H.out (by rfl) (by rfl) ‹((q:Int)==4)=true›
   | exact hit_q H.out (by rfl) (by rfl) ‹((q:Int)==20)=true›
   | exact hit_q H.out (by rfl) (by rfl) ‹((q:Int)==36)=true›
   | exact hit_q H.out (by rfl) (by rfl) ‹((q:Int)==52)=true›
   | exact hit_q H.out (by rfl) (by rfl) ‹((q:Int)==68)=true›
   | exact hit_q H.out (by rfl) (by rfl) ‹((q:Int)==84)=true›
   | exact hit_q H.out (by rfl) (by rfl) ‹((q:Int)==100)=true›
   | exact hit_q H.out (by rfl) (by rfl) ‹((q:Int)==116)=true›
   | exact hit_q H.out (by rfl) (by rfl) ‹((q:Int)==164)=true›
   | exact hit_q H.out (by rfl) (by rfl) ‹((q:Int)==21)=true›
   | exact hit_q H.out (by rfl) (by rfl) ‹((q:Int)==37)=true›
   | exact hit_q H.out (by rfl) (by rfl) ‹((q:Int)==53)=true›
   | exact hit_q H.out (by rfl) (by rfl) ‹((q:Int)==69)=true›
   | (have hq:=H.out
      simp only [beq_eq_false_iff_ne,ne_eq] at *
      symm
      refine known_false n ?_
      omega)
theorem class_any (n:Nat)(w:World)(h:n<65536):Calls Tryz.prog 42 #[.int .u16 n] w fun e w'=>e=.returned (.int .u16 ((n%8:Nat):Int))∧w=w':=by
 go_enter Tryz.func42,Tryz.ntmps42
 go_wp2
 go_ret
 exact ⟨ret_int (by rw [show ((7:Int))=((7:Nat):Int) from rfl,u16_and_nat n 7 h (by omega),Nat.and_two_pow_sub_one_eq_mod n 3]),rfl⟩
end Go.Proofs.YtcnebdjhhfnmoaaGreatDoor
namespace Go.Proofs.YtcnebdjhhfnmoaaGreatDoor
open Go.RowKit
structure Rd (w:World)(z n:Nat)(A:Option Addr)(xs:List Value):Prop where
 len:xs.length=n*z
 at_:n=0∨∃b o,A=some ⟨b,o,none⟩∧b<w.heap.size∧∀j u,xs[j]?=some u→w.cell? ⟨b,o+j,none⟩=some u
section
variable {w w':World} {z n:Nat} {A:Option Addr} {xs:List Value}
theorem Rd.below (h:Rd w z n A xs)(hb:Below w.heap.size w w'):Rd w' z n A xs:=
 ⟨h.len,h.at_.imp id fun ⟨b,o,e,hl,hc⟩=>⟨b,o,e,Nat.lt_of_lt_of_le hl hb.size,fun j u hu=>(hb.cell (p:=⟨b,o+j,none⟩) hl).trans (hc j u hu)⟩⟩
theorem Rd.kept {B:Nat}(h:Rd w z n A xs)(hB:B=w.heap.size)(hb:Below B w w'):Rd w' z n A xs:=h.below (hB▸hb)
theorem Rd.pos (h:Rd w z n A xs)(hn:0<n):∃b o,A=some ⟨b,o,none⟩∧b<w.heap.size∧∀j u,xs[j]?=some u→w.cell? ⟨b,o+j,none⟩=some u:=by
 rcases h.at_ with e|e
 ·omega
 ·exact e
theorem Rd.nil (w:World)(z:Nat)(A:Option Addr):Rd w z 0 A []:=⟨by simp,.inl rfl⟩
end
theorem own_below {w w':World}{base:Nat}{e:TypeId}{z n:Nat}{v:Value}{xs:List Value}(h:w.ownsRow base e z v n xs)(hb:Below w.heap.size w w'):w'.ownsRow base e z v n xs:=by
 refine ⟨h.1,h.2.imp id fun ⟨g,cap,cur,e,h1,h2,h3⟩=>⟨g,cap,cur,e,h1,?_,h3⟩⟩
 rw [hb.block g (Array.getElem?_eq_some_iff.1 h2).1];exact h2
end Go.Proofs.YtcnebdjhhfnmoaaGreatDoor
namespace Go.Proofs.YtcnebdjhhfnmoaaGreatDoor
open Go.RowKit
def Bk (w:World)(g t:Nat)(l:List Value):Prop:=w.heap[g]?=some (.cells l.toArray t (0,0))
section
variable {w w':World} {g t:Nat} {l:List Value}
theorem Bk.lt (h:Bk w g t l):g<w.heap.size:=(Array.getElem?_eq_some_iff.1 h).1
theorem Bk.cell (h:Bk w g t l)(j:Nat){v:Value}(hv:l[j]?=some v):w.cell? ⟨g,j,none⟩=some v:=by
 simp only [Bk] at h;simp [World.cell?,h,hv]
theorem Bk.fz (h:Bk w g t l)(j:Nat):w.frozen? ⟨g,j,none⟩=false:=by simp only [Bk] at h;simp [World.frozen?,h]
theorem Bk.set (h:Bk w g t l)(j:Nat)(v:Value):Bk (w.setCell ⟨g,j,none⟩ v) g t (l.set j v):=by
 simp only [Bk] at h ⊢;simp [World.setCell,Array.getElem?_modify,h]
theorem Bk.drew (h:Bk w g t l):Bk w.drew g t l:=h
theorem Bk.drewN (h:Bk w g t l)(n:Nat):Bk (w.drewN n) g t l:=h
theorem Bk.below {B:Nat}(h:Bk w g t l)(hb:Below B w w')(hg:g<B):Bk w' g t l:=(hb.block g hg).trans h
theorem Bk.kept (h:Bk w g t l)(hb:Below w.heap.size w w'):Bk w' g t l:=h.below hb h.lt
theorem Bk.grown {r:Option Nat}(h:Bk w g t l)(hb:w.grownBy w' r)(hr:some g≠r):Bk w' g t l:=(hb.block g h.lt hr).trans h
theorem Bk.alloc (h:Bk w g t l)(o:Obj):Bk (w.alloc o) g t l:=(Below.heap_alloc w o g h.lt).trans h
theorem Bk.new (w:World)(t:Nat)(a:Array Value)(h:a=l.toArray):Bk (w.alloc (.cells a t)) w.heap.size t l:=by subst h;exact heap_alloc_new w _
end
theorem only_refl (w:World)(r:Option Nat):w.grownBy w r:=⟨rfl,rfl,rfl,Nat.le_refl _,fun _ _ _=>rfl⟩
theorem only_trans {w w1 w2:World}{g:Nat}(h:w.grownBy w1 (some g))(k:w1.grownBy w2 (some g)):w.grownBy w2 (some g):=
 ⟨k.os.trans h.os,k.tape.trans h.tape,k.output.trans h.output,Nat.le_trans h.size k.size,fun i hi hn=>(k.block i (Nat.lt_of_lt_of_le hi h.size) hn).trans (h.block i hi hn)⟩
theorem only_set (w:World)(g j:Nat)(v:Value):w.grownBy (w.setCell ⟨g,j,none⟩ v) (some g):=
 ⟨rfl,rfl,rfl,by simp [World.setCell],fun i _ hn=>Below.heap_setCell w _ v i (fun e=>hn (by rw [e]))⟩
theorem only_below {w0 w w':World}{g B:Nat}(h:Below B w0 w)(k:w.grownBy w' (some g))(hB:B≤w.heap.size)(hg:B≤g):Below B w0 w':=h.grown k hB (fun q hq=>by cases hq;exact hg)
theorem below_drewN {B:Nat}{a w:World}(h:Below B a w)(n:Nat):Below B a (w.drewN n):=⟨h.os,h.tape,h.output,h.size,h.block⟩
theorem quiet_l {P:Program}{f:FuncId}{args:Array Value}{w:World}{n:Nat}{v:Value}
  (h:Calls P f args (w.drewN n) fun e w'=>e=.returned v∧w.drewN n=w'):Calls P f args (w.drewN n) fun e w'=>e=.returned v∧∃m,w'=w.drewN m:=
 h.mono fun _ _ ⟨he,hm⟩=>⟨he,n,hm.symm⟩
def u32s (l:List Nat):List Value:=l.map fun (x:Nat)=>Value.int .u32 x
def u8s (l:List Nat):List Value:=l.map fun (x:Nat)=>Value.int .u8 x
theorem u8s_at {l:List Nat}{k x:Nat}(h:l[k]?=some x):(u8s l)[k]?=some (.int .u8 x):=by simp [u8s,h]
end Go.Proofs.YtcnebdjhhfnmoaaGreatDoor
namespace Go.Proofs.YtcnebdjhhfnmoaaGreatDoor
open Go.RowKit
theorem Bk.row {w:World}{g t:Nat}{l:List Value}(h:Bk w g t l)(l':List Value):Bk (w.setRow g l'.toArray) g t l':=setRow_heap w g l.toArray l'.toArray t (0,0) h
theorem only_row (w:World)(g:Nat)(cs:Array Value):w.grownBy (w.setRow g cs) (some g):=
 ⟨rfl,rfl,rfl,by simp [World.setRow],fun i _ hn=>by
  simp only [World.setRow,Array.getElem?_modify]
  rw [if_neg (fun e=>hn (by rw [e]))]⟩
section
variable {w:World} {g t ty n e:Nat} {l l':List Value} {ops:Array Oper} {rest:List Oper} {o:Oper} {a:Act} {Q:Exit→Act→World→Prop}
theorem ld_row (h:Bk w g t l)(hgd:o.guard=none)(x:Operand)(ho:o.op=.load ty x)(hx:a.eval x=.pointer (some ⟨g,0,none⟩))(hu:Tryz.prog.underlying ty=some (.array n e))(hi:(Tryz.prog.info? ty).map (·.size)=some n)(hl:l.length=n)
  (hK:wpList Tryz.prog ops Q rest (a.put o.dst (.agg l.toArray)) w):wpList Tryz.prog ops Q (o::rest) a w:=
 wpList_load_row hgd ty x ho g hx t l.toArray (0,0) _ h hu rfl (by rw [hi,List.size_toArray,hl]) hK
theorem st_row (h:Bk w g t l)(hgd:o.guard=none)(x y:Operand)(ho:o.op=.store ty x y)(hx:a.eval x=.pointer (some ⟨g,0,none⟩))(hy:a.eval y=.agg l'.toArray)(hi:(Tryz.prog.info? ty).map (·.size)=some n)(hl:l.length=n)(hl':l'.length=n)(h1:l'.toArray.all (·.oneCell')=true)
  (hK:wpList Tryz.prog ops Q rest (a.put o.dst undef) (w.setRow g l'.toArray)):wpList Tryz.prog ops Q (o::rest) a w:=
 wpList_store_row hgd ty x y ho g l'.toArray hx hy t l.toArray h (by rw [hi,List.size_toArray,hl']) (by rw [List.size_toArray,List.size_toArray,hl,hl']) h1 hK
end
section
variable {w:World} {g t ty n e:Nat} {l:List Value}
end
end Go.Proofs.YtcnebdjhhfnmoaaGreatDoor
namespace Go.Proofs.YtcnebdjhhfnmoaaGreatDoor
open Go.RowKit
def Ins.cells (i:Ins):List Value:=[.int .u16 i.c,.int .u8 i.t,.int .u8 i.f,.int .u32 i.k]
theorem cells_at:∀(l:List Ins)(k j:Nat),j<4→(l.flatMap Ins.cells)[k*4+j]?=(l[k]?).bind (fun x=>x.cells[j]?)
 | [],k,j,_=>by simp
 | x::l,k,j,hj=>by
  rw [List.flatMap_cons]
  cases k with
  | zero=>rw [List.getElem?_append_left (by simp [Ins.cells];omega)];simp
  | succ k=>
   rw [List.getElem?_append_right (by simp [Ins.cells];omega),show (x.cells).length=4 from rfl,show (k+1)*4+j-4=k*4+j from by omega,cells_at l k j hj]
   simp
theorem four_cells {w:World}{l:List Ins}{b o k:Nat}{x:Ins}(h:∀j u,(l.flatMap Ins.cells)[j]?=some u→w.cell? ⟨b,o+j,none⟩=some u)(hx:l[k]?=some x) :
  w.cell? ⟨b,o+k*4,none⟩=some (.int .u16 x.c)∧w.cell? ⟨b,o+k*4+1,none⟩=some (.int .u8 x.t)∧w.cell? ⟨b,o+k*4+2,none⟩=some (.int .u8 x.f)∧w.cell? ⟨b,o+k*4+3,none⟩=some (.int .u32 x.k):=by
 have hh:∀j,j<4→∀u,x.cells[j]?=some u→w.cell? ⟨b,o+k*4+j,none⟩=some u:=fun j hj u hu=>by
  rw [Nat.add_assoc];exact h _ _ (by rw [cells_at l k j hj,hx];exact hu)
 exact ⟨hh 0 (by omega) _ rfl,hh 1 (by omega) _ rfl,hh 2 (by omega) _ rfl,hh 3 (by omega) _ rfl⟩
theorem take_snoc' {α:Type}(l:List α)(k:Nat)(x:α)(h:l[k]?=some x):l.take (k+1)=l.take k++[x]:=by
 have hl:=(List.getElem?_eq_some_iff.1 h)
 rw [List.take_succ_eq_append_getElem hl.1,hl.2]
theorem infoIns:(Tryz.prog.info? 76).map (fun i=>(i.zero,i.size,i.bytes))=some (some (.agg #[.int .u16 0,.int .u8 0,.int .u8 0,.int .u32 0]),4,8):=by kernel_rfl
theorem cells_one (x:Ins):∀u∈x.cells,u.oneCell'=true:=by
 intro u hu
 simp only [Ins.cells,List.mem_cons,List.not_mem_nil,or_false] at hu
 rcases hu with rfl|rfl|rfl|rfl<;>rfl
theorem two_below (w:World)(o o':Obj):Below w.heap.size w ((w.alloc o).alloc o'):=((Below.refl _ _).alloc (Nat.le_refl _) _).alloc (by simp) _
theorem load_of (k:Int)(w:World):Calls Tryz.prog 94 #[.int .u32 k] w fun e w'=>e=.returned (.agg #[.int .u16 32,.int .u8 0,.int .u8 0,.int .u32 k])∧Below w.heap.size w w':=by
 go_enter Tryz.func94,Tryz.ntmps94
 go_wp2
 exact bodyPost_ret (v:=.agg #[.int .u16 32,.int .u8 0,.int .u8 0,.int .u32 k]) (by simp [results,Tryz.results94,go_sem]) rfl ⟨rfl,(Below.refl _ _).alloc (Nat.le_refl _) _⟩
theorem return_of (k:Int)(w:World):Calls Tryz.prog 27 #[.int .u32 k] w fun e w'=>e=.returned (.agg #[.int .u16 6,.int .u8 0,.int .u8 0,.int .u32 k])∧Below w.heap.size w w':=by
 go_enter Tryz.func27,Tryz.ntmps27
 go_wp2
 exact bodyPost_ret (v:=.agg #[.int .u16 6,.int .u8 0,.int .u8 0,.int .u32 k]) (by simp [results,Tryz.results27,go_sem]) rfl ⟨rfl,(Below.refl _ _).alloc (Nat.le_refl _) _⟩
theorem skip_of (k:Int)(w:World):Calls Tryz.prog 166 #[.int .u32 k] w fun e w'=>e=.returned (.agg #[.int .u16 5,.int .u8 0,.int .u8 0,.int .u32 k])∧Below w.heap.size w w':=by
 go_enter Tryz.func166,Tryz.ntmps166
 go_wp2
 exact bodyPost_ret (v:=.agg #[.int .u16 5,.int .u8 0,.int .u8 0,.int .u32 k]) (by simp [results,Tryz.results166,go_sem]) rfl ⟨rfl,(Below.refl _ _).alloc (Nat.le_refl _) _⟩
theorem if_of (h k t f r:Int)(w:World)(hr:bits .or .u16 (bits .or .u16 5 h) 0=r):Calls Tryz.prog 134 #[.int .u16 h,.int .u32 k,.int .u8 t,.int .u8 f] w fun e w'=>e=.returned (.agg #[.int .u16 r,.int .u8 t,.int .u8 f,.int .u32 k])∧Below w.heap.size w w':=by
 go_enter Tryz.func134,Tryz.ntmps134
 go_wp2
 exact bodyPost_ret (v:=.agg #[.int .u16 r,.int .u8 t,.int .u8 f,.int .u32 k]) (by simp [results,Tryz.results134,go_sem]) rfl ⟨rfl,(Below.refl _ _).alloc (Nat.le_refl _) _⟩
end Go.Proofs.YtcnebdjhhfnmoaaGreatDoor
namespace Go.Proofs.YtcnebdjhhfnmoaaGreatDoor
open Go.RowKit
structure Seg (w:World)(B z n:Nat)(A:Option Addr)(xs:List Value):Prop where
 len:xs.length=n*z
 at_:n=0∨∃b o,A=some ⟨b,o,none⟩∧B≤b∧b<w.heap.size∧∀j u,xs[j]?=some u→w.cell? ⟨b,o+j,none⟩=some u
section
variable {w w':World} {B z n:Nat} {A:Option Addr} {xs:List Value}
theorem Seg.rd (h:Seg w B z n A xs):Rd w z n A xs:=⟨h.len,h.at_.imp id fun ⟨b,o,e,_,h1,h2⟩=>⟨b,o,e,h1,h2⟩⟩
theorem Rd.seg (h:Rd w z n A xs):Seg w 0 z n A xs:=⟨h.len,h.at_.imp id fun ⟨b,o,e,h1,h2⟩=>⟨b,o,e,Nat.zero_le _,h1,h2⟩⟩
theorem Seg.below (h:Seg w B z n A xs)(hb:Below w.heap.size w w'):Seg w' B z n A xs:=
 ⟨h.len,h.at_.imp id fun ⟨b,o,e,h0,hl,hc⟩=>⟨b,o,e,h0,Nat.lt_of_lt_of_le hl hb.size,fun j u hu=>(hb.cell (p:=⟨b,o+j,none⟩) hl).trans (hc j u hu)⟩⟩
theorem Seg.pos (h:Seg w B z n A xs)(hn:0<n):∃b o,A=some ⟨b,o,none⟩∧B≤b∧b<w.heap.size∧∀j u,xs[j]?=some u→w.cell? ⟨b,o+j,none⟩=some u:=by
 rcases h.at_ with e|e
 ·omega
 ·exact e
theorem Seg.nil (w:World)(B z:Nat)(A:Option Addr):Seg w B z 0 A []:=⟨by simp,.inl rfl⟩
end
theorem own_seg {w:World}{base:Nat}{e:TypeId}{z n:Nat}{v:Value}{xs:List Value}(h:w.ownsRow base e z v n xs) :
  ∃A c,v=.slice A n c∧n≤c∧Seg w base z n A xs:=by
 rcases h.2 with ⟨rfl,rfl⟩|⟨g,cap,cur,rfl,hb,hh,hn,hm,hs,rfl⟩
 ·exact ⟨none,0,rfl,Nat.le_refl _,h.1,.inl rfl⟩
 ·refine ⟨_,cap,rfl,hn,h.1,.inr ⟨g,0,rfl,hb,(Array.getElem?_eq_some_iff.1 hh).1,fun j u hu=>?_⟩⟩
  have:=h.cells (g:=g) rfl j u hu
  rw [←this]
  simp [Addr.add]
  by_cases hj:j=0<;>simp [hj]
theorem bk_full {w:World}{base:Nat}{e:TypeId}{z n g:Nat}{xs:List Value}(h:w.ownsRow base e z (.slice (some ⟨g,0,none⟩) n n) n xs):Bk w g e xs:=by
 rcases h.2 with ⟨h1,_⟩|⟨g',cap,cur,h1,hb,hh,hn,hm,hs,rfl⟩
 ·cases h1
 ·simp only [Value.slice.injEq,Option.some.injEq,Addr.mk.injEq,and_true,true_and] at h1
  obtain ⟨rfl,rfl⟩:=h1
  unfold Bk
  rw [hh,List.take_of_length_le (by simp [hs])]
theorem Bk.seg {w:World}{e z n g B:Nat}{xs:List Value}(h:Bk w g e xs)(hl:xs.length=n*z)(hb:B≤g):Seg w B z n (some ⟨g,0,none⟩) xs:=
 ⟨hl,.inr ⟨g,0,rfl,hb,h.lt,fun j u hu=>by rw [Nat.zero_add];exact h.cell j hu⟩⟩
theorem Seg.grown {w w':World}{B z n g:Nat}{A:Option Addr}{xs:List Value}(h:Seg w B z n A xs)(hg:w.grownBy w' (some g))(hB:g<B):Seg w' B z n A xs:=
 ⟨h.len,h.at_.imp id fun ⟨b,o,e,h0,hl,hc⟩=>⟨b,o,e,h0,Nat.lt_of_lt_of_le hl hg.size,fun j u hu=>by
  rw [←hc j u hu]
  unfold World.cell?
  rw [hg.block b hl (fun e=>by cases e;omega)]⟩⟩
def ints (l:List Nat):List Value:=l.map fun (x:Nat)=>Value.int .i64 x
theorem ints_at {l:List Nat}{k x:Nat}(h:l[k]?=some x):(ints l)[k]?=some (.int .i64 x):=by simp [ints,h]
end Go.Proofs.YtcnebdjhhfnmoaaGreatDoor
namespace Go.Proofs.YtcnebdjhhfnmoaaGreatDoor
abbrev Bs:=List UInt8
structure Ln where
 w:Bs
 c:Nat
 s:Nat
deriving DecidableEq
def tab:List Ln:=[
 ⟨[108,100,108,101,110],128,0⟩,⟨[108,100,120,108,101,110],129,0⟩,⟨[114,101,116,97],22,0⟩,⟨[116,97,120],7,0⟩,⟨[116,120,97],135,0⟩,⟨[110,101,103],132,0⟩,
 ⟨[97,100,100,120],12,0⟩,⟨[115,117,98,120],28,0⟩,⟨[109,117,108,120],44,0⟩,⟨[100,105,118,120],60,0⟩,⟨[111,114,120],76,0⟩,⟨[97,110,100,120],92,0⟩,
 ⟨[108,115,104,120],108,0⟩,⟨[114,115,104,120],124,0⟩,⟨[120,111,114,120],172,0⟩,⟨[108,100],0,1⟩,⟨[108,100,97,98,115],32,1⟩,⟨[108,100,109,101,109],96,1⟩,
 ⟨[108,100,120],1,1⟩,⟨[108,100,120,109,101,109],97,1⟩,⟨[115,116],2,1⟩,⟨[115,116,120],3,1⟩,⟨[114,101,116],6,1⟩,⟨[106,97],5,1⟩,
 ⟨[97,100,100],4,1⟩,⟨[115,117,98],20,1⟩,⟨[109,117,108],36,1⟩,⟨[100,105,118],52,1⟩,⟨[111,114],68,1⟩,⟨[97,110,100],84,1⟩,
 ⟨[108,115,104],100,1⟩,⟨[114,115,104],116,1⟩,⟨[120,111,114],164,1⟩,⟨[106,101,113],21,2⟩,⟨[106,103,116],37,2⟩,⟨[106,103,101],53,2⟩,
 ⟨[106,115,101,116],69,2⟩,⟨[106,101,113,120],29,3⟩,⟨[106,103,116,120],45,3⟩,⟨[106,103,101,120],61,3⟩,⟨[106,115,101,116,120],77,3⟩]
def rawL:Ln:=⟨[114,97,119],0,4⟩
def flds (s:Nat):List Nat:=if s=1 then [3] else if s=2 then [3,1,2] else if s=3 then [1,2] else if s=4 then [0,1,2,3] else []
def most (f:Nat):Nat:=if f=0 then 65535 else if f=3 then 4294967295 else 255
def getF (f:Nat)(i:Ins):Nat:=if f=0 then i.c else if f=1 then i.t else if f=2 then i.f else i.k
def setF (f:Nat)(i:Ins)(n:Nat):Ins:=if f=0 then { i with c:=n } else if f=1 then { i with t:=n } else if f=2 then { i with f:=n } else if f=3 then { i with k:=n } else i
def named (w:Bs):Option Ln:=if w=rawL.w then some rawL else tab.find? (fun l=>l.w==w)
def tellsGo:List Nat→Ins→Ins→Ins
 | [],left,_=>left
 | f::r,left,i=>tellsGo r (setF f left (getF f i)) i
def tells (l:Ln)(i:Ins):Ins:=tellsGo (flds l.s) ⟨l.c,0,0,0⟩ i
def sameI (a b:Ins):Bool:=decide (a.c=b.c∧a.t=b.t∧a.f=b.f∧a.k=b.k)
def hits (i:Ins)(l:Ln):Bool:=decide (l.c=i.c)&&sameI (tells l i) i
def lineOf (i:Ins):Ln:=(tab.find? (hits i)).getD rawL
def words (i:Ins):List Bs:=(lineOf i).w::(flds (lineOf i).s).map fun f=>Lib.decDigits (getF f i)
def told (i:Ins):Bs:=Lib.join (words i) [32]
def text (L:List Ins):Bs:=L.flatMap fun i=>told i++[10]
def dig (b:Nat)(c:UInt8):Option Nat:=
 if 48≤c.toNat∧c.toNat≤57 then (if c.toNat-48<b then some (c.toNat-48) else none)
 else if 97≤c.toNat∧c.toNat≤122 then (if c.toNat-87<b then some (c.toNat-87) else none) else none
def horner (b:Nat):Bs→Nat→Option Nat
 | [],n=>some n
 | c::t,n=>match dig b c with
  | none=>none
  | some d=>if n*b+d<18446744073709551616 then horner b t (n*b+d) else none
def hexed (s:Bs):Bool:=Lib.hasPrefix s [48,120]
def digits (s:Bs):Bs:=if hexed s then s.drop 2 else s
def base (s:Bs):Nat:=if hexed s then 16 else 10
def number (s:Bs):Option Nat:=
 if 1<(digits s).length∧(digits s).head?=some 48 then none
 else if digits s=[] then none else horner (base s) (digits s) 0
end Go.Proofs.YtcnebdjhhfnmoaaGreatDoor
namespace Go.Proofs.YtcnebdjhhfnmoaaGreatDoor
def Wd (w:Bs):Prop:=w≠[]∧∀c∈w,48≤c.toNat∧c.toNat<128
end Go.Proofs.YtcnebdjhhfnmoaaGreatDoor
namespace Go.Proofs.YtcnebdjhhfnmoaaGreatDoor
structure Tok where
 k:Nat
 t:Bs
 n:Nat
 line:Nat
 col:Nat
deriving DecidableEq
def isL (c:Nat):Bool:=decide (97≤c)&&decide (c≤122)
def isD (c:Nat):Bool:=decide (48≤c)&&decide (c≤57)
def prn (c:Nat):Bool:=decide (33≤c)&&(decide (c≤126)&&c != 35)
def sgn (c:Nat):Bool:=c==61 || (c==33 || (c==60 || (c==62 || c==38)))
def hasB (k c:Nat):Bool:=if k=1 then isL c || (isD c || (c==45 || (c==95 || c==44))) else if k=2 then isL c || isD c else if k=3 then prn c else sgn c
structure Wr where
 l:Nat
 c:Nat
 e:Nat
deriving DecidableEq
def pre (acc:List Tok)(r:List Tok×Nat×Nat):List Tok×Nat×Nat:=if r.2.2≠0 then ([],r.2) else (acc++r.1,r.2)
end Go.Proofs.YtcnebdjhhfnmoaaGreatDoor
namespace Go.Proofs.YtcnebdjhhfnmoaaGreatDoor
open Go.RowKit
def Says (b:Bool)(w:World)(e:Ending)(w':World):Prop:=e=.returned (.bool b)∧w=w'
theorem printable_any (c:Nat)(w:World):Calls Tryz.prog 154 #[.int .u8 c] w (Says (prn c) w):=by
 by_cases h3:c=35
 ·subst h3
  go_enter Tryz.func154,Tryz.ntmps154
  go_wp2
  go_ret
  exact ⟨rfl,rfl⟩
 by_cases h1:33≤c
 ·have g1:(33:Int)≤(c:Int):=by omega
  have d1:decide ((33:Int)≤(c:Int))=true:=decide_eq_true g1
  have g3:((c:Int) != 35)=true:=by simp;omega
  by_cases h2:c≤126
  ·have g2:(c:Int)≤126:=by omega
   have d2:decide ((c:Int)≤126)=true:=decide_eq_true g2
   have e1:prn c=true:=by simp [prn,h1,h2,h3]
   rw [e1]
   clear e1 h1 h2 h3
   go_enter Tryz.func154,Tryz.ntmps154
   go_wp2
   go_ret
   exact ⟨rfl,rfl⟩
  ·have g2:¬(c:Int)≤126:=by omega
   have d2:decide ((c:Int)≤126)=false:=decide_eq_false g2
   have e1:prn c=false:=by simp [prn,h2]
   rw [e1]
   clear e1 h1 h2 h3
   go_enter Tryz.func154,Tryz.ntmps154
   go_wp2
   go_ret
   exact ⟨rfl,rfl⟩
 ·have g1:¬(33:Int)≤(c:Int):=by omega
  have d1:decide ((33:Int)≤(c:Int))=false:=decide_eq_false g1
  have e1:prn c=false:=by simp [prn,h1]
  rw [e1]
  clear e1 h1 h3
  go_enter Tryz.func154,Tryz.ntmps154
  go_wp2
  go_ret
  exact ⟨rfl,rfl⟩
end Go.Proofs.YtcnebdjhhfnmoaaGreatDoor
